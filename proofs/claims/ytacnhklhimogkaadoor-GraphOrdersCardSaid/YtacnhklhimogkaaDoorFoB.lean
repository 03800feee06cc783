/- graph.Format for whatever graph. -/
import Derived.Test.YtacnhklhimogkaaDoorFoA
import Derived.Test.YtacnhklhimogkaaDoorGcB
import Derived.Test.YtacnhklhimogkaaDoorGcB
import Derived.Test.YtacnhklhimogkaaDoorGrN
import Derived.Test.YtacnhklhimogkaaDoorPmA
import Derived.Test.YtacnhklhimogkaaDoorPmM
import Derived.Test.YtacnhklhimogkaaDoorPmD
import Derived.Test.YtacnhklhimogkaaDoorGrR
import Derived.Test.YtacnhklhimogkaaDoorTb
import Derived.LoopTactic
import Derived.Deep.RegionWith
import Derived.WalkKit
import Derived.WalkSpells
import Derived.WalkLawsBesides
import Derived.Handy
import Derived.Deep.QuietTactic
import Derived.BigQuiet
import Derived.Outline
import Derived.Laws.BitsAllLaws
import Derived.IntWalk
import Derived.Lib.SmallJoins
import Derived.Lib.Hide
namespace Go.Proofs.YtacnhklhimogkaaDoor
set_option linter.unusedVariables false
set_option linter.unusedSimpArgs false
open Go.RowKit

theorem format_ok (n : Nat) (a : Nat → Nat) (ha : WF n a) (w : World) :
    Calls Tryd.prog 27 #[gv n a] w fun e w' => e = .returned (.tuple #[.string (gtx n a), .int .i64 0]) ∧ Below w.heap.size w w' := by
  have Ha := Lib.hid ha
  clear ha
  go_enter Tryd.func27, Tryd.ntmps27
  go_wp2_with fail
  refine (check_ok n a Ha.out _).mono ?_
  rintro e w1 ⟨rfl, hb1⟩
  obtain ⟨hc, hf⟩ := bcell hb1
  have hz : w.heap.size < w1.heap.size := by have := hb1.size; simp at this; omega
  have B1 := fresh_below hb1
  go_wp2_with fail
  refine (text_ok n a Ha.out _).mono ?_
  rintro e w2 ⟨rfl, hb2⟩
  go_wp2_with fail
  go_ret2
  exact ⟨rfl, B1.trans (Joins.below_le hb2 B1.size)⟩

theorem format_bad (n : Int) (a : Nat → Int) (ra : Rng a) (h : gcode n a ≠ 0) (w : World) :
    Calls Tryd.prog 27 #[iv n a] w fun e w' => e = .returned (.tuple #[.string { data := #[] }, .int .i64 (gcode n a)]) ∧ Below w.heap.size w w' := by
  have Hc := Lib.hid (fun w => gcheck_code n a ra w)
  have hc := gcode_cases n a
  obtain ⟨c, ec⟩ : ∃ c, gcode n a = c := ⟨_, rfl⟩
  rw [ec] at Hc hc h ⊢
  clear ec ra
  go_enter Tryd.func27, Tryd.ntmps27
  go_wp2_with fail
  refine (Hc.out _).mono ?_
  rintro e w1 ⟨rfl, hb1⟩
  have B1 := fresh_below hb1
  clear Hc
  rcases hc with rfl | rfl | rfl
  · exact absurd rfl h
  all_goals
    clear h
    go_wp2_with fail
    go_ret2
    exact ⟨rfl, B1⟩
end Go.Proofs.YtacnhklhimogkaaDoor
