/- The iterators of package procset, for every loop body; and collect. -/
import Derived.Test.YtokjdlljhloflaaBsA
import Derived.RangeFuncNested
import Derived.RangeFuncBound
import Derived.RangeFuncCalls
import Derived.RangeFuncLeaves
import Derived.RangeFuncBox
import Derived.RangeFuncFrom
import Derived.Shelf.Abstract
import Derived.Shelf.RegionOpen
import Derived.WalkKit
import Derived.OwnWalkIn
import Derived.TacticsInMore
import Derived.LoopNIn
import Derived.LoopIn
import Derived.Maps.AppendAt
namespace Go.Proofs.Ytokjdlljhloflaa.Ps
set_option linter.unusedVariables false
set_option linter.unusedSimpArgs false
open Go.RowKit Go.Shelf
attribute [local go_sem] Oper.semAt_some

/-- The elements of a set of numbers below 5. -/
def mem (s : Nat) : List Nat := (List.range 5).filter fun p => s / 2 ^ p % 2 == 1
/-- The set without its least element. -/
def nxt (y : Nat) : Nat := y &&& (y - 1)
theorem mem_step : ∀ y : Fin 32, y.val ≠ 0 → mem y.val = tz y.val :: mem (nxt y.val) ∧ nxt y.val < y.val := by decide +kernel
theorem nxt_bits : ∀ y : Fin 32, y.val ≠ 0 → bits .and .u64 (y.val : Int) ((y.val : Int) - 1) = (nxt y.val : Int) := by decide +kernel

/-- Whether x lies inside of s. -/
def good (s x : Nat) : Bool := x ||| s == s
/-- The sets inside of s from k on. -/
def sub (s k : Nat) : List Nat := (List.range' k (s + 1 - k)).filter (good s)
theorem sub_yes {s k : Nat} (hk : k ≤ s) (h : good s k = true) : sub s k = k :: sub s (k + 1) := by
  unfold sub
  rw [show s + 1 - k = (s + 1 - (k + 1)) + 1 from by omega, List.range'_succ, List.filter_cons_of_pos h]
theorem sub_no {s k : Nat} (hk : k ≤ s) (h : ¬ good s k = true) : sub s k = sub s (k + 1) := by
  unfold sub
  rw [show s + 1 - k = (s + 1 - (k + 1)) + 1 from by omega, List.range'_succ, List.filter_cons_of_neg h]
theorem sub_end {s k : Nat} (h : s < k) : sub s k = [] := by
  unfold sub
  rw [show s + 1 - k = 0 from by omega]; rfl
theorem good_bits : ∀ s : Fin 32, ∀ x : Fin 32, (bits .andNot .i64 (x.val : Int) (s.val : Int) == 0) = good s.val x.val := by decide +kernel

/-- What an append to a slice in a box leaves, the row lying behind the box. -/
theorem appended2 {W w1 : World} {n₁ B : Nat} {t e : TypeId} {size : Nat} {v v' : Value} {k m : Nat} {xs ys : List Value} {tmp : Obj}
    (hv : Boxed W B t v) (hte : t ≠ e) (hrow : W.ownsRow n₁ e size v k xs) (hn : n₁ ≤ W.heap.size) (hB : B < n₁)
    (hown' : w1.ownsRow n₁ e size v' m ys) (hgrow : (W.alloc tmp).grownBy w1 v.ownBlock) :
    Boxed w1 B t v ∧ Boxed (w1.setCell ⟨B, 0, none⟩ v') B t v' ∧ (w1.setCell ⟨B, 0, none⟩ v').ownsRow n₁ e size v' m ys ∧ KeepsOthers W (w1.setCell ⟨B, 0, none⟩ v') ∧ Below B W (w1.setCell ⟨B, 0, none⟩ v') ∧ ∀ j, j < n₁ → j ≠ B → (w1.setCell ⟨B, 0, none⟩ v').heap[j]? = W.heap[j]? := by
  have hlo : W.ownsRow B e size v k xs := ⟨hrow.1, hrow.2.elim .inl fun ⟨g, cap, cur, h1, h2, h3⟩ => .inr ⟨g, cap, cur, h1, by omega, h3⟩⟩
  have hlo' : w1.ownsRow B e size v' m ys := ⟨hown'.1, hown'.2.elim .inl fun ⟨g, cap, cur, h1, h2, h3⟩ => .inr ⟨g, cap, cur, h1, by omega, h3⟩⟩
  obtain ⟨a1, a2, _, a4, a5⟩ := hv.appended hte hlo (by omega) (Nat.le_refl B) hlo' hgrow
  refine ⟨a1, a2, hown'.kept (grownBy_setCell' w1 B v') (.inr (a1.not_row hte hown').symm), a4, a5, fun j hj hne => ?_⟩
  rw [Below.heap_setCell w1 ⟨B, 0, none⟩ v' j hne]
  rw [hgrow.block j (by simp; omega) (fun e => by have := (hrow.lt j e.symm).1; omega)]
  exact (World.grownBy_alloc W tmp none).block j (by omega) (by simp)

theorem infoI : (Try.prog.info? 3).map (fun i => (i.zero, i.size, i.bytes)) = some (some (.int .i64 0), 1, 8) := by kernel_rfl

end Go.Proofs.Ytokjdlljhloflaa.Ps
