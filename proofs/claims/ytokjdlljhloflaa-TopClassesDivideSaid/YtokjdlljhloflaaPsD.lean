/- Package procset and its specification: the subsets. -/
import Derived.Test.YtokjdlljhloflaaPsC
import Derived.WalkKit
import Derived.WalkSpells
import Derived.WalkLawsBesides
import Derived.Handy
import Derived.Deep.QuietTactic
import Derived.BigQuiet
import Derived.Outline
import Derived.Laws.BitsAllLaws
import Derived.IntWalk
import Derived.Lib.SmallJoins
import Derived.Lib.Hide
import Derived.Deep.DeepCutAuto
import Derived.LoopTactic
import Derived.Deep.RegionWith
namespace Go.Proofs.Ytokjdlljhloflaa.Ps
set_option linter.unusedVariables false
set_option linter.unusedSimpArgs false
open Go.RowKit

theorem sub_len (S : Nat) (h : S < 32) : (sub S 0).length ≤ 32 := by
  unfold sub
  refine Nat.le_trans (List.length_filter_le _ _) ?_
  simp; omega
/-- Whether each of the first p elements of a is in b. -/
def insb (a b p : Nat) : Bool := (List.range p).all fun q => !(a / 2 ^ q % 2 == 1) || b / 2 ^ q % 2 == 1
theorem insb_five : ∀ a : Fin 32, ∀ b : Fin 32, insb a.val b.val 5 = good b.val a.val := by decide +kernel
theorem insb_succ (a b p : Nat) : insb a b (p + 1) = (insb a b p && (!(a / 2 ^ p % 2 == 1) || b / 2 ^ p % 2 == 1)) := by
  unfold insb
  rw [List.range_succ, List.all_append]
  simp
theorem insb_mono {a b p : Nat} (h : insb a b p = false) (hp : p ≤ 5) : insb a b 5 = false := by
  rw [Bool.eq_false_iff] at h ⊢
  intro h2
  apply h
  unfold insb at h2 ⊢
  rw [List.all_eq_true] at h2 ⊢
  intro q hq
  exact h2 q (List.mem_range.2 (by have := List.mem_range.1 hq; omega))

/-- The sets inside of S below k. -/
def subb (S k : Nat) : List Nat := (List.range k).filter (good S)
theorem subb_end (S : Nat) : subb S (S + 1) = sub S 0 := by unfold subb sub; rw [List.range_eq_range']; rfl
theorem subb_yes {S k : Nat} (h : good S k = true) : subb S (k + 1) = subb S k ++ [k] := by
  unfold subb; rw [List.range_succ, List.filter_append]; simp [h]
theorem subb_no {S k : Nat} (h : ¬ good S k = true) : subb S (k + 1) = subb S k := by
  unfold subb; rw [List.range_succ, List.filter_append]; simp [h]
theorem subb_le (S k : Nat) : (subb S k).length ≤ k := by
  unfold subb; exact Nat.le_trans (List.length_filter_le _ _) (by simp)

end Go.Proofs.Ytokjdlljhloflaa.Ps
