/- Package procset and its specification: lists of elements, sizes. -/
import Derived.Test.YtienbebbgioccabDoorPsA
import Derived.WalkKit
import Derived.WalkSpells
import Derived.WalkLawsBesides
import Derived.Handy
import Derived.Deep.QuietTactic
import Derived.BigQuiet
import Derived.Outline
import Derived.Laws.BitsAllLaws
import Derived.IntWalk
import Derived.Lib.SmallJoins
import Derived.Lib.Hide
import Derived.Deep.DeepCutAuto
import Derived.LoopTactic
import Derived.Deep.RegionWith
namespace Go.Proofs.YtienbebbgioccabDoor
set_option linter.unusedVariables false
set_option linter.unusedSimpArgs false
open Go.RowKit

/-- The elements below p. -/
def memb (S p : Nat) : List Nat := (List.range p).filter fun q => S / 2 ^ q % 2 == 1
theorem memb_five (S : Nat) : memb S 5 = mem S := rfl
theorem memb_yes {S p : Nat} (h : S / 2 ^ p % 2 = 1) : memb S (p + 1) = memb S p ++ [p] := by
  unfold memb
  rw [List.range_succ, List.filter_append]
  simp [h]
theorem memb_no {S p : Nat} (h : ¬ S / 2 ^ p % 2 = 1) : memb S (p + 1) = memb S p := by
  unfold memb
  rw [List.range_succ, List.filter_append]
  simp [h]
theorem memb_le (S p : Nat) : (memb S p).length ≤ p := by
  unfold memb
  exact Nat.le_trans (List.length_filter_le _ _) (by simp)
theorem cellsI_app (l : List Nat) (x : Nat) : cellsI (l ++ [x]) = cellsI l ++ [.int .i64 (x : Int)] := by unfold cellsI; simp

/-- A list that the call made. -/
def Made (l : List Nat) (B : Nat) (w : World) (e : Ending) (w' : World) : Prop := ∃ v, e = .returned v ∧ Below B w w' ∧ w'.ownsRow B 3 1 v l.length (cellsI l)

theorem members_okn (N S : Nat) (h : SOk N S) (w : World) (hT : Tab w) : Calls Tryd.prog 10 #[.int .i64 (N : Int), .int .i64 (S : Int)] w (LRes (mem S) 0 w.heap.size w) := by
  have H := Lib.hid (fun w => pchk_ok N S h w)
  have hs := h.lt
  have HE : Hid (∀ W, Calls Tryd.prog 17 #[.int .i64 (S : Int)] W fun e w' => e = .returned (.func (.func 25) #[] #[.pointer (some ⟨W.heap.size, 0, none⟩)]) ∧ w' = W.alloc (.cells #[.int .i64 (S : Int)] 3)) := Lib.hid (fun W => callsIn_wide.1 (elements_in Fence.wide 3 trivial rfl (S : Int) W))
  have HC : Hid (∀ W Bn, Tab W → Bn < W.heap.size → W.cell? ⟨Bn, 0, none⟩ = some (.int .i64 (S : Int)) → Calls Tryd.prog 20 #[.func (.func 25) #[] #[.pointer (some ⟨Bn, 0, none⟩)]] W fun e W' => ∃ v, e = .returned v ∧ W'.ownsRow W.heap.size 3 1 v (mem S).length ((mem S).map fun x : Nat => Value.int .i64 (x : Int)) ∧ (v = .slice none 0 0 ↔ mem S = []) ∧ Below W.heap.size W W') := Lib.hid (fun W Bn hT hB hc => by
    have hm : (mem S).length ≤ 5 := memb_le S 5
    refine callsIn_wide.1 (collect_in (fun x : Nat => x) Fence.wide 3 trivial 25 _ trivial (fun args w => by kernel_rfl) rfl (by omega) (mem S) (by omega) W (fun V hV => ?_))
    exact elements_stops (fun x : Nat => x) Fence.wide 2 trivial trivial (fun y V h1 h2 h3 => callsIn_wide.2 (tz_any y h1 h2 V h3)) rfl (by omega) Bn W.heap.size S hs hT.pos (mem S) (by simp) V (Nat.lt_of_lt_of_le hB hV.size) ((hV.cell (p := ⟨Bn, 0, none⟩) hB).trans hc) (hT.below hV hT.pos))
  have HT := Lib.hid hT
  clear hT h
  go_enter Tryd.func10, Tryd.ntmps10
  go_wp2_with fail
  refine (H.out _).mono ?_
  rintro e w' ⟨rfl, rfl⟩
  go_wp2_with fail
  refine (HE.out _).mono ?_
  rintro e w' ⟨rfl, rfl⟩
  go_wp2_with fail
  refine (HC.out _ w.heap.size (HT.out.below ((Below.refl _ _).alloc (Nat.le_refl _) _) HT.out.pos) (by simp) (by simp)).mono ?_
  rintro e w2 ⟨v, rfl, ho, _, hb⟩
  have hB := fresh_below hb
  have HL : Hid (LiesI w2 v (mem S)) := Lib.hid (LiesI.of ho)
  clear ho hb
  go_wp2_with fail
  go_ret2
  exact ⟨v, rfl, hB, HL.out⟩
/-- How many elements. -/
def num (x : Nat) : Nat := (mem x).length
set_option maxHeartbeats 4000000 in
theorem ones64_any (x : Nat) (hx : x < 32) (w : World) :
    Calls Tryd.prog 19 #[.int .u64 (x : Int)] w fun e w' => e = .returned (.int .i64 ((num x : Nat) : Int)) ∧ w = w' := by
  obtain rfl | rfl | rfl | rfl | rfl | rfl | rfl | rfl | rfl | rfl | rfl | rfl | rfl | rfl | rfl | rfl | rfl | rfl | rfl | rfl | rfl | rfl | rfl | rfl | rfl | rfl | rfl | rfl | rfl | rfl | rfl | rfl : x = 0 ∨ x = 1 ∨ x = 2 ∨ x = 3 ∨ x = 4 ∨ x = 5 ∨ x = 6 ∨ x = 7 ∨ x = 8 ∨ x = 9 ∨ x = 10 ∨ x = 11 ∨ x = 12 ∨ x = 13 ∨ x = 14 ∨ x = 15 ∨ x = 16 ∨ x = 17 ∨ x = 18 ∨ x = 19 ∨ x = 20 ∨ x = 21 ∨ x = 22 ∨ x = 23 ∨ x = 24 ∨ x = 25 ∨ x = 26 ∨ x = 27 ∨ x = 28 ∨ x = 29 ∨ x = 30 ∨ x = 31 := by omega
  all_goals
    go_enter Tryd.func19, Tryd.ntmps19
    go_wp2_with fail
    go_ret
    exact ⟨by kernel_rfl, rfl⟩
theorem ones_any (x : Nat) (hx : x < 32) (w : World) :
    Calls Tryd.prog 9 #[.int .u64 (x : Int)] w fun e w' => e = .returned (.int .i64 ((num x : Nat) : Int)) ∧ w = w' := by
  have H := Lib.hid (fun w => ones64_any x hx w)
  have hx2 : (x : Int) < 32 := by omega
  clear hx
  go_enter Tryd.func9, Tryd.ntmps9
  go_wp2_with fail
  refine (H.out _).mono ?_
  rintro e w' ⟨rfl, rfl⟩
  go_wp2_with fail
  go_ret
  exact ⟨rfl, rfl⟩
theorem size_okn (N S : Nat) (h : SOk N S) (w : World) : Calls Tryd.prog 4 #[.int .i64 (N : Int), .int .i64 (S : Int)] w fun e w' => e = .returned (.tuple #[.int .i64 (num S : Int), .int .i64 0]) ∧ w = w' := by
  have H := Lib.hid (fun w => pchk_ok N S h w)
  have HO := Lib.hid (fun w => ones_any S h.lt w)
  have hs := h.lt
  have hs2 : (S : Int) < 32 := by omega
  clear h hs
  go_enter Tryd.func4, Tryd.ntmps4
  go_wp2_with fail
  refine (H.out _).mono ?_
  rintro e w' ⟨rfl, rfl⟩
  go_wp2_with fail
  refine (HO.out _).mono ?_
  rintro e w' ⟨rfl, rfl⟩
  go_wp2_with fail
  go_ret2
  exact ⟨rfl, rfl⟩
set_option maxHeartbeats 1000000 in
theorem equal_ok (l : List Nat) (hl : l.length ≤ 1000000) (u v : Value) (w : World) (hu : LiesI w u l) (hv : LiesI w v l) :
    Calls Tryd.prog 14 #[u, v] w fun e w' => e = .returned (.bool true) ∧ Below w.heap.size w w' := by
  rcases hu.form with ⟨rfl, h0⟩ | ⟨g, cg, rfl, hg, hcg, HG⟩
  · rcases hv.form with ⟨rfl, _⟩ | ⟨k, ck, rfl, hk, hck, HK⟩
    · go_enter Tryd.func14, Tryd.ntmps14
      go_wp2_with fail
      go_rounds 1
      go_ret
      exact ⟨rfl, Below.refl _ _⟩
    · rw [h0]
      go_enter Tryd.func14, Tryd.ntmps14
      go_wp2_with fail
      go_rounds 1
      go_ret
      exact ⟨rfl, Below.refl _ _⟩
  rcases hv.form with ⟨rfl, h0⟩ | ⟨k, ck, rfl, hk, hck, HK⟩
  · rw [h0]
    go_enter Tryd.func14, Tryd.ntmps14
    go_wp2_with fail
    go_rounds 1
    go_ret
    exact ⟨rfl, Below.refl _ _⟩
  have HG' := Lib.hid HG
  have HK' := Lib.hid HK
  clear HG HK hu hv
  go_enter Tryd.func14, Tryd.ntmps14
  go_wp2_with fail
  go_loopw [13] (fun j wr => ∃ i : Nat, i ≤ l.length ∧ j = .int .i64 i ∧ ∃ d, wr = w.drewN d) (fun j _ => l.length - (intOf j).toNat)
  case atStart => exact ⟨0, by omega, rfl, 0, rfl⟩
  case round =>
    obtain ⟨i, hi, rfl, d, rfl⟩ := hrel
    by_cases hlt : i < l.length
    · have hb : Below w.heap.size w (w.drewN d) := below_dn d (Below.refl _ _)
      have c0 := HG'.out _ i hb hlt
      have d0 := HK'.out _ i hb hlt
      obtain ⟨y, hy⟩ : ∃ y, l[i] = y := ⟨_, rfl⟩
      rw [hy] at c0 d0
      simp at c0 d0
      clear hy hb
      go_wp2_with fail
      (try go_quiet (fail))
      (try go_wp2_with fail)
      go_roundw
      case rel => exact ⟨i + 1, by omega, by go_num, _, by first | rfl | (simp only [World.drewN_drewN]; rfl)⟩
      case measure => simp [intOf]; omega
    · have hil : i = l.length := by omega
      subst hil
      go_wp2_with fail
      go_ret
      exact ⟨rfl, below_dn _ (Below.refl _ _)⟩
end Go.Proofs.YtienbebbgioccabDoor
