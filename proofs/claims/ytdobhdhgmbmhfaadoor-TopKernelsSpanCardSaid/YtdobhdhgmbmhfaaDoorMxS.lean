/- The package's Add. -/
import Derived.Test.YtdobhdhgmbmhfaaDoorMxL
import Derived.WalkKit
import Derived.WalkSpells
import Derived.WalkLawsBesides
import Derived.Handy
import Derived.Deep.QuietTactic
import Derived.BigQuiet
import Derived.Outline
import Derived.Laws.BitsAllLaws
import Derived.IntWalk
import Derived.Lib.SmallJoins
import Derived.Lib.Hide
import Derived.Deep.DeepCutAuto
import Derived.LoopTactic
import Derived.Deep.RegionWith
import Derived.Laws.CopyOwn
import Derived.Maps.OwnOps
import Derived.Maps.OwnSet
import Derived.Laws.OwnMore
import Derived.Maps.AppendAt
import Derived.RangeFuncNested
import Derived.RangeFuncBound
import Derived.RangeFuncCalls
import Derived.RangeFuncLeaves
import Derived.RangeFuncBox
import Derived.RangeFuncFrom
import Derived.Shelf.Abstract
import Derived.Shelf.RegionOpen
import Derived.OwnWalkIn
import Derived.TacticsInMore
import Derived.LoopNIn
import Derived.LoopIn
import Derived.Deep.RegionHeld3
import Derived.RegionTactic
import Derived.ChangeAlike
import Derived.Deep.RegionLaw
import Derived.Deep.AppendLies
namespace Go.Proofs.YtdobhdhgmbmhfaaDoor
set_option linter.unusedVariables false
set_option linter.unusedSimpArgs false
open Go.RowKit

theorem Out.kept {W V V' : World} {X k b : Nat} {C : Int} {L : Nat → List Int} {v : Value} {vs : List Value} (h : Out W V X C k L v vs) (hk : Kept (some b) V.heap.size V V') (hb : b < X) : Out V' V' X C k L v vs :=
  ⟨(hk.block X h.box.lt (fun e => by cases e; omega)).trans h.box, ⟨own_keep h.rws.own fun j hj hj2 => hk.block j hj2 (fun e => by cases e; omega), fun c hc => by
    obtain ⟨u, h1, h2, h3⟩ := h.rws.rows c hc
    exact ⟨u, h1, own_keep h2 fun j hj hj2 => hk.block j hj2 (fun e => by cases e; omega), h3⟩⟩, Below.refl _ _⟩
theorem Out.self {W V : World} {X k : Nat} {C : Int} {L : Nat → List Int} {v : Value} {vs : List Value} (h : Out W V X C k L v vs) : Out V V X C k L v vs := ⟨h.box, h.rws, Below.refl _ _⟩
end Go.Proofs.YtdobhdhgmbmhfaaDoor
