/- The law's example. -/
import Derived.Test.YtbefkngeffpokaaDoorMxQ
import Derived.WalkKit
import Derived.WalkSpells
import Derived.WalkLawsBesides
import Derived.Handy
import Derived.Deep.QuietTactic
import Derived.BigQuiet
import Derived.Outline
import Derived.Laws.BitsAllLaws
import Derived.IntWalk
import Derived.Lib.SmallJoins
import Derived.Lib.Hide
import Derived.Deep.DeepCutAuto
import Derived.LoopTactic
import Derived.Deep.RegionWith
import Derived.Laws.CopyOwn
import Derived.Maps.OwnOps
import Derived.Maps.OwnSet
import Derived.Laws.OwnMore
import Derived.Maps.AppendAt
import Derived.RangeFuncNested
import Derived.RangeFuncBound
import Derived.RangeFuncCalls
import Derived.RangeFuncLeaves
import Derived.RangeFuncBox
import Derived.RangeFuncFrom
import Derived.Shelf.Abstract
import Derived.Shelf.RegionOpen
import Derived.OwnWalkIn
import Derived.TacticsInMore
import Derived.LoopNIn
import Derived.LoopIn
import Derived.Deep.RegionHeld3
import Derived.RegionTactic
import Derived.ChangeAlike
namespace Go.Proofs.YtbefkngeffpokaaDoor
set_option linter.unusedVariables false
set_option linter.unusedSimpArgs false
open Go.RowKit

def exr : Nat → Nat := fun i => if i = 0 then 3 else if i = 1 then 6 else if i = 2 then 5 else 8
theorem Lz.more {w : World} {o : Option Addr} {n : Nat} {f : Nat → Int} (h : Lz w o n f) (ob : Obj) : Lz (w.alloc ob) o n f := h.below ((Below.refl _ _).alloc (Nat.le_refl _) _)
theorem lit4 (w : World) (A : Array Value) (tA t t2 : TypeId) (l0 l1 l2 l3 : List Int) (L : Nat → List Int) (h0 : L 0 = l0) (h1 : L 1 = l1) (h2 : L 2 = l2) (h3 : L 3 = l3) : Ls ((((((w.alloc (.cells A tA)).alloc (.cells (lsv l0).toArray t)).alloc (.cells (lsv l1).toArray t)).alloc (.cells (lsv l2).toArray t)).alloc (.cells (lsv l3).toArray t)).alloc (.cells #[.slice (some ⟨w.heap.size + 1, 0, none⟩) l0.length l0.length, .slice (some ⟨w.heap.size + 1 + 1, 0, none⟩) l1.length l1.length, .slice (some ⟨w.heap.size + 1 + 1 + 1, 0, none⟩) l2.length l2.length, .slice (some ⟨w.heap.size + 1 + 1 + 1 + 1, 0, none⟩) l3.length l3.length] t2)) (some ⟨w.heap.size + 1 + 1 + 1 + 1 + 1, 0, none⟩) 4 L := by
  subst h0 h1 h2 h3
  have e0 := ((((lz_lit (L 0) (w.alloc (.cells A tA)) t).more (.cells (lsv (L 1)).toArray t)).more (.cells (lsv (L 2)).toArray t)).more (.cells (lsv (L 3)).toArray t)).more (.cells #[.slice (some ⟨w.heap.size + 1, 0, none⟩) (L 0).length (L 0).length, .slice (some ⟨w.heap.size + 1 + 1, 0, none⟩) (L 1).length (L 1).length, .slice (some ⟨w.heap.size + 1 + 1 + 1, 0, none⟩) (L 2).length (L 2).length, .slice (some ⟨w.heap.size + 1 + 1 + 1 + 1, 0, none⟩) (L 3).length (L 3).length] t2)
  have e1 := (((lz_lit (L 1) ((w.alloc (.cells A tA)).alloc (.cells (lsv (L 0)).toArray t)) t).more (.cells (lsv (L 2)).toArray t)).more (.cells (lsv (L 3)).toArray t)).more (.cells #[.slice (some ⟨w.heap.size + 1, 0, none⟩) (L 0).length (L 0).length, .slice (some ⟨w.heap.size + 1 + 1, 0, none⟩) (L 1).length (L 1).length, .slice (some ⟨w.heap.size + 1 + 1 + 1, 0, none⟩) (L 2).length (L 2).length, .slice (some ⟨w.heap.size + 1 + 1 + 1 + 1, 0, none⟩) (L 3).length (L 3).length] t2)
  have e2 := ((lz_lit (L 2) (((w.alloc (.cells A tA)).alloc (.cells (lsv (L 0)).toArray t)).alloc (.cells (lsv (L 1)).toArray t)) t).more (.cells (lsv (L 3)).toArray t)).more (.cells #[.slice (some ⟨w.heap.size + 1, 0, none⟩) (L 0).length (L 0).length, .slice (some ⟨w.heap.size + 1 + 1, 0, none⟩) (L 1).length (L 1).length, .slice (some ⟨w.heap.size + 1 + 1 + 1, 0, none⟩) (L 2).length (L 2).length, .slice (some ⟨w.heap.size + 1 + 1 + 1 + 1, 0, none⟩) (L 3).length (L 3).length] t2)
  have e3 := (lz_lit (L 3) ((((w.alloc (.cells A tA)).alloc (.cells (lsv (L 0)).toArray t)).alloc (.cells (lsv (L 1)).toArray t)).alloc (.cells (lsv (L 2)).toArray t)) t).more (.cells #[.slice (some ⟨w.heap.size + 1, 0, none⟩) (L 0).length (L 0).length, .slice (some ⟨w.heap.size + 1 + 1, 0, none⟩) (L 1).length (L 1).length, .slice (some ⟨w.heap.size + 1 + 1 + 1, 0, none⟩) (L 2).length (L 2).length, .slice (some ⟨w.heap.size + 1 + 1 + 1 + 1, 0, none⟩) (L 3).length (L 3).length] t2)
  have bx := Box.new (((((w.alloc (.cells A tA)).alloc (.cells (lsv (L 0)).toArray t)).alloc (.cells (lsv (L 1)).toArray t)).alloc (.cells (lsv (L 2)).toArray t)).alloc (.cells (lsv (L 3)).toArray t)) #[.slice (some ⟨w.heap.size + 1, 0, none⟩) (L 0).length (L 0).length, .slice (some ⟨w.heap.size + 1 + 1, 0, none⟩) (L 1).length (L 1).length, .slice (some ⟨w.heap.size + 1 + 1 + 1, 0, none⟩) (L 2).length (L 2).length, .slice (some ⟨w.heap.size + 1 + 1 + 1 + 1, 0, none⟩) (L 3).length (L 3).length] t2
  simp only [World.size_alloc] at e0 e1 e2 e3 bx
  intro _
  refine ⟨_, 0, rfl, bx.lt, fun c hc => ?_⟩
  match c, hc with
  | 0, _ => exact ⟨_, _, bx.cell 0, e0⟩
  | 1, _ => exact ⟨_, _, bx.cell 1, e1⟩
  | 2, _ => exact ⟨_, _, bx.cell 2, e2⟩
  | 3, _ => exact ⟨_, _, bx.cell 3, e3⟩
set_option maxRecDepth 100000 in
set_option maxHeartbeats 4000000 in
theorem example_ok (w : World) : Calls Tryd.prog 43 #[] w fun e w' => ∃ o cap, e = .returned (mv 4 o 4 cap) ∧ Mx w' o 4 4 exr ∧ Below w.heap.size w w' := by
  go_enter Tryd.func43, Tryd.ntmps43
  go_wp2_with fail
  refine bodyPost_ret (v := mv 4 (some ⟨w.heap.size + 1 + 1 + 1 + 1 + 1, 0, none⟩) 4 4) (by simp [results, Tryd.results43, go_sem, mv]) rfl ⟨_, _, rfl, ?_, ?_⟩
  · exact lit4 w _ _ _ _ [0, 1] [1, 2] [0, 2] [3] (fun c => ints (el 4 (exr c))) (by decide +kernel) (by decide +kernel) (by decide +kernel) (by decide +kernel)
  · repeat' (first | (with_reducible exact Below.refl _ _) | (with_reducible refine Below.alloc ?_ ?_ _) | go_size)

end Go.Proofs.YtbefkngeffpokaaDoor
