/- Subsets and choices in plain numbers. -/
import Derived.Test.YtienbebbgioccaaDoorPsR
import Derived.WalkKit
import Derived.WalkSpells
import Derived.WalkLawsBesides
import Derived.Handy
import Derived.Deep.QuietTactic
import Derived.BigQuiet
import Derived.Outline
import Derived.Laws.BitsAllLaws
import Derived.IntWalk
import Derived.Lib.SmallJoins
import Derived.Lib.Hide
import Derived.Deep.DeepCutAuto
import Derived.LoopTactic
import Derived.Deep.RegionWith
namespace Go.Proofs.YtienbebbgioccaaDoor
set_option linter.unusedVariables false
set_option linter.unusedSimpArgs false
open Go.RowKit

theorem subF_len : ∀ S : Fin 32, (sub S.val 0).length = 2 ^ num S.val := by decide +kernel
theorem subF_asc : ∀ S : Fin 32, ∀ k : Fin 32, (h : k.val + 1 < (sub S.val 0).length) → (sub S.val 0)[k.val] < (sub S.val 0)[k.val + 1] := by decide +kernel
theorem andnF : ∀ S : Fin 32, ∀ x : Fin 32, good S.val x.val = true → bits .andNot .i64 (x.val : Int) (S.val : Int) = 0 := by decide +kernel
/-- The choices of fewer than k elements. -/
def pre (S : Nat) : Nat → List Nat
  | 0 => []
  | k + 1 => pre S k ++ cho S (k : Int)
theorem preF : ∀ S : Fin 32, ∀ k : Fin 7, (pre S.val k.val).length ≤ 200 := by decide +kernel
theorem choF_pos : ∀ S : Fin 32, ∀ k : Fin 6, k.val ≤ num S.val → 1 ≤ (cho S.val (k.val : Int)).length := by decide +kernel
theorem permF : ∀ S : Fin 32, (zl (pre S.val (num S.val + 1))).isPerm (zl (sub S.val 0)) = true := by decide +kernel
theorem sub_good {S x : Nat} (h : x ∈ sub S 0) : good S x = true ∧ x ≤ S := by
  unfold sub at h
  have := List.mem_filter.1 h
  refine ⟨this.2, ?_⟩
  have h2 := List.mem_range'.1 this.1
  omega
theorem cho_good {S x : Nat} {k : Int} (h : x ∈ cho S k) : (num x : Int) = k ∧ x ≤ S := by
  unfold cho at h
  have h2 := List.mem_filter.1 h
  exact ⟨by simpa using h2.2, (sub_good h2.1).2⟩
theorem num_le (S : Nat) : num S ≤ 5 := memb_le S 5
theorem sort_pre (S : Nat) (hs : S < 32) : (zl (pre S (num S + 1))).mergeSort (fun x y => decide (x ≤ y)) = zl (sub S 0) := by
  have hp : (zl (pre S (num S + 1))).Perm (zl (sub S 0)) := List.isPerm_iff.1 (permF ⟨S, hs⟩)
  have h1 : ((zl (pre S (num S + 1))).mergeSort (fun x y => decide (x ≤ y))).Perm (zl (sub S 0)) := (List.mergeSort_perm _ _).trans hp
  have hsort : ((zl (pre S (num S + 1))).mergeSort (fun x y => decide (x ≤ y))).Pairwise (fun a b => decide (a ≤ b) = true) :=
    List.pairwise_mergeSort (fun a b c h1 h2 => by simp at *; omega) (fun a b => by simp; omega) _
  have hsub : (zl (sub S 0)).Pairwise (fun a b => decide (a ≤ b) = true) := by
    unfold zl sub
    rw [List.pairwise_map]
    refine List.Pairwise.filter _ ?_
    refine (List.pairwise_lt_range' (s := 0) (n := S + 1 - 0) (step := 1)).imp ?_
    intro a b h
    simp; omega
  exact h1.eq_of_pairwise (fun a b _ _ h1 h2 => by simp at h1 h2; omega) hsort hsub
end Go.Proofs.YtienbebbgioccaaDoor
