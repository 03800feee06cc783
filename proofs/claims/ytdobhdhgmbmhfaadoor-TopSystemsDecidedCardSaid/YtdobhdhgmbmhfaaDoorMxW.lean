/- The specification's Verify. -/
import Derived.Test.YtdobhdhgmbmhfaaDoorMmA
import Derived.WalkKit
import Derived.WalkSpells
import Derived.WalkLawsBesides
import Derived.Handy
import Derived.Deep.QuietTactic
import Derived.BigQuiet
import Derived.Outline
import Derived.Laws.BitsAllLaws
import Derived.IntWalk
import Derived.Lib.SmallJoins
import Derived.Lib.Hide
import Derived.Deep.DeepCutAuto
import Derived.LoopTactic
import Derived.Deep.RegionWith
import Derived.Laws.CopyOwn
import Derived.Maps.OwnOps
import Derived.Maps.OwnSet
import Derived.Laws.OwnMore
import Derived.Maps.AppendAt
import Derived.RangeFuncNested
import Derived.RangeFuncBound
import Derived.RangeFuncCalls
import Derived.RangeFuncLeaves
import Derived.RangeFuncBox
import Derived.RangeFuncFrom
import Derived.Shelf.Abstract
import Derived.Shelf.RegionOpen
import Derived.OwnWalkIn
import Derived.TacticsInMore
import Derived.LoopNIn
import Derived.LoopIn
import Derived.Deep.RegionHeld3
import Derived.RegionTactic
import Derived.ChangeAlike
namespace Go.Proofs.YtdobhdhgmbmhfaaDoor
set_option linter.unusedVariables false
set_option linter.unusedSimpArgs false
open Go.RowKit

/-- What the verification of a refutation answers. -/
def vfy (C K : Nat) (r : Nat → Nat) (bb yy : Nat) : Int := if sumr r 0 (el K yy) % 2 ^ C = 0 ∧ odl yy (el K bb) = true then 0 else 18
theorem el_len0 (C x : Nat) : (el C x).length = 0 ↔ x % 2 ^ C = 0 := by
  rw [List.length_eq_zero_iff]
  have h : el C x = el C (x % 2 ^ C) := by
    unfold el
    refine List.filter_congr fun i hi => ?_
    rw [Nat.testBit_mod_two_pow, decide_eq_true (List.mem_range.1 hi), Bool.true_and]
  rw [h, el_nil (Nat.mod_lt _ (Nat.two_pow_pos _))]
end Go.Proofs.YtdobhdhgmbmhfaaDoor
