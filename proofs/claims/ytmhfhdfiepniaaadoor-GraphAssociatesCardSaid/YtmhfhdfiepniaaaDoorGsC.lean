/- GraphAssociates where the three graphs are not all well-formed, or of several sizes: it answers the chapter's example. -/
import Derived.Test.YtmhfhdfiepniaaaDoorGsB
import Derived.Deep.MidRow
import Derived.Deep.DeepCutAuto
import Derived.Deep.RegionWith
import Derived.LoopTactic
namespace Go.Proofs.YtmhfhdfiepniaaaDoor
set_option linter.unusedVariables false
set_option linter.unusedSimpArgs false
open Go.RowKit

theorem rangeAt_new (w : World) (C : Array Value) (t : TypeId) : (w.alloc (.cells C t)).rangeAt w.heap.size 0 C.toList := by
  intro j v hv
  rw [Nat.zero_add]
  have : w.heap.size = w.heap.size := rfl
  have h := World.cell?_alloc_mark w C t (0, 0) j
  rw [h]
  simpa using hv

set_option maxRecDepth 100000 in
set_option maxHeartbeats 4000000 in
theorem assoc_no (na nb nc : Int) (a b c : Nat → Int) (ra : Rng a) (rb : Rng b) (rc : Rng c) (h : ¬ ThreeOk na nb nc a b c) (w : World)
    (awake_ok : ∀ w, Calls Tryd.prog 13 #[] w fun e w' => e = .returned (.bool true) ∧ Below w.heap.size w w') :
    Calls Tryd.prog 5 #[iv3 na nb nc a b c] w fun e w' => e = .returned (.bool true) ∧ Below w.heap.size w w' := by
  have H3 := Lib.hid (fun w => three_no na nb nc a b c ra rb rc h w)
  have HA := Lib.hid awake_ok
  have hI : (Tryd.prog.info? 38).map (·.size) = some (icells3 na nb nc a b c).toList.length := rfl
  clear ra rb rc h awake_ok
  go_enter Tryd.func5, Tryd.ntmps5
  go_wp2_with (refine wpList_load_mid rfl 38 _ rfl w.heap.size 0 rfl _ _ (rangeAt_new w (icells3 na nb nc a b c) _) Tryd.underlying38 rfl hI ?_)
  trace_state
  refine (H3.out _).mono ?_
  rintro e w1 ⟨rfl, hb1⟩
  go_wp2_with fail
  refine (HA.out _).mono ?_
  rintro e w2 ⟨rfl, hb2⟩
  go_wp2_with fail
  go_ret
  exact ⟨rfl, (fresh_below hb1).trans (Joins.below_le hb2 (by have := hb1.size; simp at this; omega))⟩
end Go.Proofs.YtmhfhdfiepniaaaDoor
