/- Package procset and its specification: lists of elements, sizes. -/
import Derived.Test.YtokjdlljhloflaaPsA
import Derived.WalkKit
import Derived.WalkSpells
import Derived.WalkLawsBesides
import Derived.Handy
import Derived.Deep.QuietTactic
import Derived.BigQuiet
import Derived.Outline
import Derived.Laws.BitsAllLaws
import Derived.IntWalk
import Derived.Lib.SmallJoins
import Derived.Lib.Hide
import Derived.Deep.DeepCutAuto
import Derived.LoopTactic
import Derived.Deep.RegionWith
namespace Go.Proofs.Ytokjdlljhloflaa.Ps
set_option linter.unusedVariables false
set_option linter.unusedSimpArgs false
open Go.RowKit

/-- The elements below p. -/
def memb (S p : Nat) : List Nat := (List.range p).filter fun q => S / 2 ^ q % 2 == 1
theorem memb_five (S : Nat) : memb S 5 = mem S := rfl
theorem memb_yes {S p : Nat} (h : S / 2 ^ p % 2 = 1) : memb S (p + 1) = memb S p ++ [p] := by
  unfold memb
  rw [List.range_succ, List.filter_append]
  simp [h]
theorem memb_no {S p : Nat} (h : ¬ S / 2 ^ p % 2 = 1) : memb S (p + 1) = memb S p := by
  unfold memb
  rw [List.range_succ, List.filter_append]
  simp [h]
theorem memb_le (S p : Nat) : (memb S p).length ≤ p := by
  unfold memb
  exact Nat.le_trans (List.length_filter_le _ _) (by simp)
theorem cellsI_app (l : List Nat) (x : Nat) : cellsI (l ++ [x]) = cellsI l ++ [.int .i64 (x : Int)] := by unfold cellsI; simp

/-- A list that the call made. -/
def Made (l : List Nat) (B : Nat) (w : World) (e : Ending) (w' : World) : Prop := ∃ v, e = .returned v ∧ Below B w w' ∧ w'.ownsRow B 3 1 v l.length (cellsI l)

/-- How many elements. -/
def num (x : Nat) : Nat := (mem x).length
set_option maxHeartbeats 1000000 in
theorem equal_ok (l : List Nat) (hl : l.length ≤ 1000000) (u v : Value) (w : World) (hu : LiesI w u l) (hv : LiesI w v l) :
    Calls Try.prog 11 #[u, v] w fun e w' => e = .returned (.bool true) ∧ Below w.heap.size w w' := by
  rcases hu.form with ⟨rfl, h0⟩ | ⟨g, cg, rfl, hg, hcg, HG⟩
  · rcases hv.form with ⟨rfl, _⟩ | ⟨k, ck, rfl, hk, hck, HK⟩
    · go_enter Try.func11, Try.ntmps11
      go_wp2_with fail
      go_rounds 1
      go_ret
      exact ⟨rfl, Below.refl _ _⟩
    · rw [h0]
      go_enter Try.func11, Try.ntmps11
      go_wp2_with fail
      go_rounds 1
      go_ret
      exact ⟨rfl, Below.refl _ _⟩
  rcases hv.form with ⟨rfl, h0⟩ | ⟨k, ck, rfl, hk, hck, HK⟩
  · rw [h0]
    go_enter Try.func11, Try.ntmps11
    go_wp2_with fail
    go_rounds 1
    go_ret
    exact ⟨rfl, Below.refl _ _⟩
  have HG' := Lib.hid HG
  have HK' := Lib.hid HK
  clear HG HK hu hv
  go_enter Try.func11, Try.ntmps11
  go_wp2_with fail
  go_loopw [13] (fun j wr => ∃ i : Nat, i ≤ l.length ∧ j = .int .i64 i ∧ ∃ d, wr = w.drewN d) (fun j _ => l.length - (intOf j).toNat)
  case atStart => exact ⟨0, by omega, rfl, 0, rfl⟩
  case round =>
    obtain ⟨i, hi, rfl, d, rfl⟩ := hrel
    by_cases hlt : i < l.length
    · have hb : Below w.heap.size w (w.drewN d) := below_dn d (Below.refl _ _)
      have c0 := HG'.out _ i hb hlt
      have d0 := HK'.out _ i hb hlt
      obtain ⟨y, hy⟩ : ∃ y, l[i] = y := ⟨_, rfl⟩
      rw [hy] at c0 d0
      simp at c0 d0
      clear hy hb
      go_wp2_with fail
      (try go_quiet (fail))
      (try go_wp2_with fail)
      go_roundw
      case rel => exact ⟨i + 1, by omega, by go_num, _, by first | rfl | (simp only [World.drewN_drewN]; rfl)⟩
      case measure => simp [intOf]; omega
    · have hil : i = l.length := by omega
      subst hil
      go_wp2_with fail
      go_ret
      exact ⟨rfl, below_dn _ (Below.refl _ _)⟩
end Go.Proofs.Ytokjdlljhloflaa.Ps
