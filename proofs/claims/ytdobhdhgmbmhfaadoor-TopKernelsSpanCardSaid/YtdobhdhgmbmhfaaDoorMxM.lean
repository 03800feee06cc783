/- The specification's Turned. -/
import Derived.Test.YtdobhdhgmbmhfaaDoorMxD
import Derived.WalkKit
import Derived.WalkSpells
import Derived.WalkLawsBesides
import Derived.Handy
import Derived.Deep.QuietTactic
import Derived.BigQuiet
import Derived.Outline
import Derived.Laws.BitsAllLaws
import Derived.IntWalk
import Derived.Lib.SmallJoins
import Derived.Lib.Hide
import Derived.Deep.DeepCutAuto
import Derived.LoopTactic
import Derived.Deep.RegionWith
import Derived.Laws.CopyOwn
import Derived.Maps.OwnOps
import Derived.Maps.OwnSet
import Derived.Laws.OwnMore
import Derived.Maps.AppendAt
import Derived.RangeFuncNested
import Derived.RangeFuncBound
import Derived.RangeFuncCalls
import Derived.RangeFuncLeaves
import Derived.RangeFuncBox
import Derived.RangeFuncFrom
import Derived.Shelf.Abstract
import Derived.Shelf.RegionOpen
import Derived.OwnWalkIn
import Derived.TacticsInMore
import Derived.LoopNIn
import Derived.LoopIn
import Derived.Deep.RegionHeld3
import Derived.RegionTactic
import Derived.ChangeAlike
import Derived.Deep.RegionLaw
import Derived.Deep.AppendLies
namespace Go.Proofs.YtdobhdhgmbmhfaaDoor
set_option linter.unusedVariables false
set_option linter.unusedSimpArgs false
open Go.RowKit

/-- The rows, of the first k, that have a column. -/
def tcl (r : Nat → Nat) (c k : Nat) : List Nat := (List.range k).filter fun i => (r i).testBit c
theorem tcl_step (r : Nat → Nat) (c k : Nat) : tcl r c (k + 1) = if (r k).testBit c then tcl r c k ++ [k] else tcl r c k := by
  unfold tcl
  rw [List.range_succ, List.filter_append]
  by_cases h : (r k).testBit c
  · rw [if_pos h]; simp [h]
  · rw [if_neg h]; simp [h]
theorem tcl_len (r : Nat → Nat) (c k : Nat) : (tcl r c k).length ≤ k := by
  unfold tcl
  exact Nat.le_trans (List.length_filter_le _ _) (by simp)
theorem tcl_el (r : Nat → Nat) (c K : Nat) : el K (trr K r c) = tcl r c K := el_msk (List.pairwise_lt_range.filter _) fun i hi => by simpa using (List.mem_filter.1 hi).1
/-- A row of the call's own is appended to a row of rows, in a plain region. -/
theorem wl_app {ops : Array Oper} {rest : List Oper} {o : Oper} {a : Act} {Q : Exit → Act → World → Prop} (w : World) (hgd : o.guard = none) (s x : Operand)
    (ho : o.op = .call { callee := .builtin .append, args := #[s, x], argTypes := #[22, 22] })
    (R : Nat) (v : Value) (k : Nat) (vs : List Value) (L : Nat → List Int) (u : Value) (b : Nat) (hs : a.eval s = v) (h : Rws w R v k vs L) (hu : Row w R u (L k)) (hux : u.ownBlock = none ∨ u.ownBlock ≠ v.ownBlock)
    (hx : a.eval x = .slice (some ⟨b, 0, none⟩) 1 1) (hc : w.cell? ⟨b, 0, none⟩ = some u) (hk : k ≤ 1000000) (hR : R ≤ w.heap.size)
    (hn : ∀ g cap w', Rws w' R (.slice (some ⟨g, 0, none⟩) (k + 1) cap) (k + 1) (vs ++ [u]) L → Below R w w' → wpList Tryd.prog ops Q rest (a.put o.dst (.slice (some ⟨g, 0, none⟩) (k + 1) cap)) w') :
    wpList Tryd.prog ops Q (o :: rest) a w := by
  obtain ⟨i0, hi, hz0, hz1, hz2⟩ := info_parts infoL
  refine wpList_append_lies w hgd s x 22 ho R 25 i0 (.slice none 0 0) 1 24 Tryd.underlying22 hi hz0 hz1 hz2 rfl (by decide) v k vs hs h.own ⟨b, 0, none⟩ 1 1 [u] hx rfl ?_ ?_ (by decide) (by unfold maxLen; omega) (by omega) hR _ rfl ?_
  · intro j y hy
    match j, hy with
    | 0, hy => simp at hy; subst hy; exact hc
    | j + 1, hy => simp at hy
  · intro y hy; simp at hy; rw [hy]; exact hu.one
  · intro g cap w' hown hgrow hat hlt
    refine hn g cap w' (h.step hu hux hown hgrow ?_) ((Below.refl _ _).grown hgrow hR ?_)
    · rcases hat with e | e
      · left; rw [e]; rfl
      · right; rw [← e]; rfl
    · intro j hj
      rcases own_cases h.own with ⟨rfl, _⟩ | ⟨g', cap', rfl, hR', _⟩
      · exact absurd hj (by simp [Value.ownBlock])
      · have : g' = j := by simpa [Value.ownBlock] using hj
        omega
end Go.Proofs.YtdobhdhgmbmhfaaDoor
