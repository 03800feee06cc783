/- What both sides return, law by law: Check, Transpose, Apply, Echelon, Rank, Kernel. -/
import Derived.Test.YtdobhdhgmbmhfaaDoorMyT
import Derived.WalkKit
import Derived.WalkSpells
import Derived.WalkLawsBesides
import Derived.Handy
import Derived.Deep.QuietTactic
import Derived.BigQuiet
import Derived.Outline
import Derived.Laws.BitsAllLaws
import Derived.IntWalk
import Derived.Lib.SmallJoins
import Derived.Lib.Hide
import Derived.Deep.DeepCutAuto
import Derived.LoopTactic
import Derived.Deep.RegionWith
import Derived.Laws.CopyOwn
import Derived.Maps.OwnOps
import Derived.Maps.OwnSet
import Derived.Laws.OwnMore
import Derived.Maps.AppendAt
import Derived.RangeFuncNested
import Derived.RangeFuncBound
import Derived.RangeFuncCalls
import Derived.RangeFuncLeaves
import Derived.RangeFuncBox
import Derived.RangeFuncFrom
import Derived.Shelf.Abstract
import Derived.Shelf.RegionOpen
import Derived.OwnWalkIn
import Derived.TacticsInMore
import Derived.LoopNIn
import Derived.LoopIn
import Derived.Deep.RegionHeld3
import Derived.RegionTactic
import Derived.ChangeAlike
namespace Go.Proofs.YtdobhdhgmbmhfaaDoor
set_option linter.unusedVariables false
set_option linter.unusedSimpArgs false
open Go.RowKit

theorem mats_one (U : World) (C : Int) (o : Option Addr) (K cap : Nat) : Mats (U.alloc (.cells #[.int .i64 C, .slice o K cap] 24)) U.heap.size 1 (fun _ => C) (fun _ => o) (fun _ => K) (fun _ => cap) := by
  have b := mbox U C o K cap
  refine ⟨b.lt, fun c hc => ?_, fun c hc => ?_⟩
  · obtain rfl : c = 0 := by omega
    exact b.cell 0
  · obtain rfl : c = 0 := by omega
    exact b.cell 1
/-- A matrix and an error come back. -/
def MOut (N K : Nat) (r : Nat → Nat) (v : Int) (w : World) (e : Ending) (w' : World) : Prop := ∃ o cap, e = .returned (.tuple #[.agg #[.int .i64 (N : Int), .slice o K cap], .int .i64 v]) ∧ Mx w' o K N r ∧ Below w.heap.size w w'
theorem MRes.out {N K : Nat} {r : Nat → Nat} {v : Int} {w : World} {e : Ending} {w' : World} (h : MRes N K r v w e w') : MOut N K r v w e w' := by
  obtain ⟨o, cap, h1, h2, h3⟩ := h
  exact ⟨o, cap, h1, h2.mx, h3⟩
theorem check_pair (C : Int) (K : Nat) (o : Option Addr) (cap : Nat) (w : World) (hM : Mst w C o K cap) : ∃ v : Int, ∀ W, Below w.heap.size w W →
    (Calls Tryd.prog 20 #[mv C o K cap] W fun e w' => e = .returned (.int .i64 v) ∧ Below W.heap.size W w') ∧
    (Calls Tryd.prog 19 #[mv C o K cap] W fun e w' => e = .returned (.int .i64 v) ∧ Below W.heap.size W w') := by
  rcases hM with ⟨c, h0, h1⟩ | ⟨N, r, rfl, hN, hK, hr, hmx⟩
  · exact ⟨c, h1⟩
  · exact ⟨0, fun W hW => ⟨check_mx N K (by omega) (by omega) r o cap W (hmx.below hW), rcheck_mx N K (by omega) (by omega) r o cap W (hmx.below hW)⟩⟩
/-- A list of numbers and an error come back. -/
def AOut (n : Nat) (f : Nat → Int) (v : Int) (w : World) (e : Ending) (w' : World) : Prop := ∃ o cap, e = .returned (.tuple #[.slice o n cap, .int .i64 v]) ∧ Lz w' o n f ∧ Below w.heap.size w w'
theorem VRes.out {l : List Nat} {v : Int} {w : World} {e : Ending} {w' : World} (h : VRes l v w e w') : AOut l.length (lz l) v w e w' := by
  obtain ⟨u, rfl, h2, h3⟩ := h
  obtain ⟨o, cap, rfl, h4⟩ := h2.lz
  exact ⟨o, cap, rfl, h4, h3⟩
end Go.Proofs.YtdobhdhgmbmhfaaDoor
