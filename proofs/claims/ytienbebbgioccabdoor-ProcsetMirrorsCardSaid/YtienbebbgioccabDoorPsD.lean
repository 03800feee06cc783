/- Package procset and its specification: the subsets. -/
import Derived.Test.YtienbebbgioccabDoorPsC
import Derived.WalkKit
import Derived.WalkSpells
import Derived.WalkLawsBesides
import Derived.Handy
import Derived.Deep.QuietTactic
import Derived.BigQuiet
import Derived.Outline
import Derived.Laws.BitsAllLaws
import Derived.IntWalk
import Derived.Lib.SmallJoins
import Derived.Lib.Hide
import Derived.Deep.DeepCutAuto
import Derived.LoopTactic
import Derived.Deep.RegionWith
namespace Go.Proofs.YtienbebbgioccabDoor
set_option linter.unusedVariables false
set_option linter.unusedSimpArgs false
open Go.RowKit

theorem sub_len (S : Nat) (h : S < 32) : (sub S 0).length ≤ 32 := by
  unfold sub
  refine Nat.le_trans (List.length_filter_le _ _) ?_
  simp; omega
set_option maxHeartbeats 1000000 in
theorem subsets_okn (N S : Nat) (h : SOk N S) (w : World) : Calls Tryd.prog 13 #[.int .i64 (N : Int), .int .i64 (S : Int)] w (LRes (sub S 0) 0 w.heap.size w) := by
  have H := Lib.hid (fun w => pchk_ok N S h w)
  have hs := h.lt
  have HE : Hid (∀ W, Calls Tryd.prog 16 #[.int .i64 (S : Int)] W fun e w' => e = .returned (.func (.func 24) #[] #[.pointer (some ⟨W.heap.size, 0, none⟩)]) ∧ w' = W.alloc (.cells #[.int .i64 (S : Int)] 3)) := Lib.hid (fun W => callsIn_wide.1 (subsets_in Fence.wide 3 trivial rfl (S : Int) W))
  have HC : Hid (∀ W Bn, Bn < W.heap.size → W.cell? ⟨Bn, 0, none⟩ = some (.int .i64 (S : Int)) → Calls Tryd.prog 20 #[.func (.func 24) #[] #[.pointer (some ⟨Bn, 0, none⟩)]] W fun e W' => ∃ v, e = .returned v ∧ W'.ownsRow W.heap.size 3 1 v (sub S 0).length ((sub S 0).map fun x : Nat => Value.int .i64 (x : Int)) ∧ (v = .slice none 0 0 ↔ sub S 0 = []) ∧ Below W.heap.size W W') := Lib.hid (fun W Bn hB hc => by
    have hm := sub_len S hs
    refine callsIn_wide.1 (collect_in (fun x : Nat => x) Fence.wide 3 trivial 24 _ trivial (fun args w => by kernel_rfl) rfl (by omega) (sub S 0) (by omega) W (fun V hV => ?_))
    exact subsets_stops (fun x : Nat => x) Fence.wide 2 trivial rfl (by omega) Bn S hs (Below W.heap.size) (fun A A' h => h.cell (p := ⟨Bn, 0, none⟩) hB) (sub S 0) (by simp) V (Nat.lt_of_lt_of_le hB hV.size) ((hV.cell (p := ⟨Bn, 0, none⟩) hB).trans hc))
  clear h
  go_enter Tryd.func13, Tryd.ntmps13
  go_wp2_with fail
  refine (H.out _).mono ?_
  rintro e w' ⟨rfl, rfl⟩
  go_wp2_with fail
  refine (HE.out _).mono ?_
  rintro e w' ⟨rfl, rfl⟩
  go_wp2_with fail
  refine (HC.out _ w.heap.size (by simp) (by simp)).mono ?_
  rintro e w2 ⟨v, rfl, ho, _, hb⟩
  have hB := fresh_below hb
  have HL : Hid (LiesI w2 v (sub S 0)) := Lib.hid (LiesI.of ho)
  clear ho hb
  go_wp2_with fail
  go_ret2
  exact ⟨v, rfl, hB, HL.out⟩

/-- Whether each of the first p elements of a is in b. -/
def insb (a b p : Nat) : Bool := (List.range p).all fun q => !(a / 2 ^ q % 2 == 1) || b / 2 ^ q % 2 == 1
theorem insb_five : ∀ a : Fin 32, ∀ b : Fin 32, insb a.val b.val 5 = good b.val a.val := by decide +kernel
theorem insb_succ (a b p : Nat) : insb a b (p + 1) = (insb a b p && (!(a / 2 ^ p % 2 == 1) || b / 2 ^ p % 2 == 1)) := by
  unfold insb
  rw [List.range_succ, List.all_append]
  simp
theorem insb_mono {a b p : Nat} (h : insb a b p = false) (hp : p ≤ 5) : insb a b 5 = false := by
  rw [Bool.eq_false_iff] at h ⊢
  intro h2
  apply h
  unfold insb at h2 ⊢
  rw [List.all_eq_true] at h2 ⊢
  intro q hq
  exact h2 q (List.mem_range.2 (by have := List.mem_range.1 hq; omega))

/-- The sets inside of S below k. -/
def subb (S k : Nat) : List Nat := (List.range k).filter (good S)
theorem subb_end (S : Nat) : subb S (S + 1) = sub S 0 := by unfold subb sub; rw [List.range_eq_range']; rfl
theorem subb_yes {S k : Nat} (h : good S k = true) : subb S (k + 1) = subb S k ++ [k] := by
  unfold subb; rw [List.range_succ, List.filter_append]; simp [h]
theorem subb_no {S k : Nat} (h : ¬ good S k = true) : subb S (k + 1) = subb S k := by
  unfold subb; rw [List.range_succ, List.filter_append]; simp [h]
theorem subb_le (S k : Nat) : (subb S k).length ≤ k := by
  unfold subb; exact Nat.le_trans (List.length_filter_le _ _) (by simp)

end Go.Proofs.YtienbebbgioccabDoor
