/- slices.Sort of a row of the call's own. -/
import Derived.Test.YtokjdlljhloflaaTcP
import Derived.Test.YtokjdlljhloflaaQaA
import Derived.Test.YtokjdlljhloflaaShelf
import Derived.Sort.OwnSortedInts
import Derived.Lib.OwnBridge
import Derived.WalkKit
import Derived.WalkSpells
import Derived.WalkLawsBesides
import Derived.Handy
import Derived.Deep.QuietTactic
import Derived.BigQuiet
import Derived.Outline
import Derived.Laws.BitsAllLaws
import Derived.IntWalk
import Derived.Lib.SmallJoins
import Derived.Lib.Hide
import Derived.Deep.DeepCutAuto
import Derived.LoopTactic
import Derived.Deep.RegionWith
namespace Go.Proofs.Ytokjdlljhloflaa
set_option linter.unusedVariables false
set_option linter.unusedSimpArgs false
open Go.RowKit Part Go.Sort


theorem sort_row (l m : List Int) (h1 : 1 ≤ l.length) (hlen : m.length = l.length) (hll : l.length ≤ 1000000) (hsort : l.mergeSort (fun x y => decide (x ≤ y)) = m) (B : Nat) (v : Value) (W : World) (hBW : B ≤ W.heap.size) (h : Row W B v l) :
    Calls Try.prog 10 #[v] W fun e w' => e = .returned (.tuple #[]) ∧ Below B W w' ∧ Row w' B v m := by
  rcases h.2 with ⟨_, h0⟩ | ⟨g, cap, cur, rfl, hB, hb, hn, hm, hs, ht⟩
  · omega
  · have ht2 : cur.toList.take l.length = l.map (Value.int .i64) := by rw [Nat.mul_one] at ht; exact ht
    have hr := Try.slices_Sort_int g 0 cap l W (holds_of_blockI hb ht2) (Array.getElem?_eq_some_iff.1 hb).1 (by omega)
    rw [hsort] at hr
    refine hr.mono ?_
    rintro e w' ⟨rfl, q, os, rfl⟩
    refine ⟨rfl, (Below.refl B W).grown (grownBy_sortedI m.toArray) hBW (fun k hk => by injection hk with hk; rw [← hk]; exact hB), ?_⟩
    have h2 := ownsRow_sortedI (n := q) (os := os) (ss := l) (ts := m) hlen hB hb hn hm hs
    unfold Row
    rw [hlen]
    rw [← hlen]
    rw [← hlen] at h2
    exact h2
/-- Two lists of numbers that are permutations of each other sort to one. -/
theorem sort_perm {x y : List Nat} (h : x.Perm y) : (nints x).mergeSort (fun a b => decide (a ≤ b)) = (nints y).mergeSort (fun a b => decide (a ≤ b)) := by
  have hp : (nints x).Perm (nints y) := h.map _
  have tr : ∀ a b c : Int, decide (a ≤ b) = true → decide (b ≤ c) = true → decide (a ≤ c) = true := fun a b c h1 h2 => by simp at *; omega
  have tot : ∀ a b : Int, (decide (a ≤ b) || decide (b ≤ a)) = true := fun a b => by simp; omega
  have p1 := List.mergeSort_perm (nints x) (fun a b => decide (a ≤ b))
  have p2 := List.mergeSort_perm (nints y) (fun a b => decide (a ≤ b))
  have s1 := List.pairwise_mergeSort tr tot (nints x)
  have s2 := List.pairwise_mergeSort tr tot (nints y)
  exact ((p1.trans hp).trans p2.symm).eq_of_pairwise (fun a b _ _ h1 h2 => by simp at h1 h2; omega) s1 s2

end Go.Proofs.Ytokjdlljhloflaa
