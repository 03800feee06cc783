/- The chapter's example, whole. -/
import Derived.Test.YtacnhklhimogkaaDoorRows
import Derived.Test.YtacnhklhimogkaaDoorShelf
import Derived.Test.YtacnhklhimogkaaDoorT
import Derived.Test.YtacnhklhimogkaaDoorTb
import Derived.Test.YtacnhklhimogkaaDoorGrM
import Derived.Test.YtacnhklhimogkaaDoorGrA
import Derived.Test.YtacnhklhimogkaaDoorGrB
import Derived.Test.YtacnhklhimogkaaDoorGrC
import Derived.Test.YtacnhklhimogkaaDoorGrD
import Derived.Test.YtacnhklhimogkaaDoorGrE
import Derived.Test.YtacnhklhimogkaaDoorGrR
import Derived.Test.YtacnhklhimogkaaDoorPmA
import Derived.Test.YtacnhklhimogkaaDoorPmM
import Derived.Test.YtacnhklhimogkaaDoorPmB
import Derived.Test.YtacnhklhimogkaaDoorPmC
import Derived.Test.YtacnhklhimogkaaDoorPmD
import Derived.Test.YtacnhklhimogkaaDoorAwA
import Derived.Test.YtacnhklhimogkaaDoorAwB
import Derived.Test.YtacnhklhimogkaaDoorAwC
import Derived.Test.YtacnhklhimogkaaDoorRb
import Derived.Test.YtacnhklhimogkaaDoorAwD
import Derived.WalkKit
import Derived.WalkSpells
import Derived.WalkLawsBesides
import Derived.Handy
import Derived.Deep.QuietTactic
import Derived.BigQuiet
import Derived.Outline
import Derived.Laws.BitsAllLaws
import Derived.IntWalk
import Derived.Lib.SmallJoins
import Derived.Lib.Hide
namespace Go.Proofs.YtacnhklhimogkaaDoor
set_option linter.unusedVariables false
set_option linter.unusedSimpArgs false
open Go.RowKit




set_option maxRecDepth 100000 in
set_option maxHeartbeats 1000000 in
theorem awake_ok (w : World) : Calls Tryd.prog 16 #[] w fun e w' => e = .returned (.bool true) ∧ Below w.heap.size w w' := by
  have hne : ∀ w, (binOp .neq 22 (.agg #[.int .i64 7, .int .i64 3, .int .i64 6, .int .i64 0, .int .i64 0]) (.agg #[.int .i64 7, .int .i64 3, .int .i64 6, .int .i64 0, .int .i64 0])).run Tryd.prog w = .ok (.bool false) w := fun _ => by kernel_rfl
  go_enter Tryd.func16, Tryd.ntmps16
  go_wp2_with fail
  refine (parse_A _).mono ?_
  rintro e w1 ⟨rfl, hb1⟩
  go_wp2_with fail
  have Pg1 := Box.new w1 #[.int .i64 3, .int .i64 7, .int .i64 3, .int .i64 6, .int .i64 0, .int .i64 0] 24
  have A1 := hb1.alloc hb1.size (.cells #[.int .i64 3, .int .i64 7, .int .i64 3, .int .i64 6, .int .i64 0, .int .i64 0] 24)
  clear hb1
  refine (edges_A _).mono ?_
  rintro e w2 ⟨rfl, hb2⟩
  have Pg2 := Pg1.below hb2 Pg1.lt
  have A2 := A1.trans (Joins.below_le hb2 A1.size)
  clear Pg1 A1 hb2
  obtain ⟨⟨g0, g1, g2, g3, g4, g5⟩, _⟩ := Pg2.six
  have lg := Pg2.lt
  go_wp2_with fail
  refine (Kernel_A _).mono ?_
  rintro e w3 ⟨rfl, hb3⟩
  have Pg3 := Pg2.below hb3 Pg2.lt
  have A3 := A2.trans (Joins.below_le hb3 A2.size)
  clear Pg2 A2 hb3 g0 g1 g2 g3 g4 g5 lg
  obtain ⟨⟨g0, g1, g2, g3, g4, g5⟩, _⟩ := Pg3.six
  have lg := Pg3.lt
  go_wp2_with fail
  refine (roots_A _).mono ?_
  rintro e w4 ⟨rfl, hb4⟩
  have Pg4 := Pg3.below hb4 Pg3.lt
  have A4 := A3.trans (Joins.below_le hb4 A3.size)
  clear Pg3 A3 hb4 g0 g1 g2 g3 g4 g5 lg
  obtain ⟨⟨g0, g1, g2, g3, g4, g5⟩, _⟩ := Pg4.six
  have lg := Pg4.lt
  go_wp2_with fail
  refine (compose_AA _).mono ?_
  rintro e w5 ⟨rfl, hb5⟩
  have Pg5 := Pg4.below hb5 Pg4.lt
  have A5 := A4.trans (Joins.below_le hb5 A4.size)
  clear Pg4 A4 hb5 g0 g1 g2 g3 g4 g5 lg
  obtain ⟨⟨g0, g1, g2, g3, g4, g5⟩, _⟩ := Pg5.six
  have lg := Pg5.lt
  go_wp2_with fail
  have Pt5' := Box.new w5 #[.int .i64 3, .int .i64 7, .int .i64 7, .int .i64 7, .int .i64 0, .int .i64 0] 24
  have Pg5' := Pg5.alloc (.cells #[.int .i64 3, .int .i64 7, .int .i64 7, .int .i64 7, .int .i64 0, .int .i64 0] 24)
  have A5' := A5.alloc A5.size (.cells #[.int .i64 3, .int .i64 7, .int .i64 7, .int .i64 7, .int .i64 0, .int .i64 0] 24)
  clear Pg5 A5
  have Pg5 := Pg5'
  have Pt5 := Pt5'
  have A5 := A5'
  clear Pg5' Pt5' A5'
  refine (reverse_A _).mono ?_
  rintro e w6 ⟨rfl, hb6⟩
  have Pg6 := Pg5.below hb6 Pg5.lt
  have Pt6 := Pt5.below hb6 Pt5.lt
  have A6 := A5.trans (Joins.below_le hb6 A5.size)
  clear Pg5 Pt5 A5 hb6 g0 g1 g2 g3 g4 g5 lg
  obtain ⟨⟨g0, g1, g2, g3, g4, g5⟩, _⟩ := Pg6.six
  have lg := Pg6.lt
  obtain ⟨⟨t0, t1, t2, t3, t4, t5⟩, _⟩ := Pt6.six
  have lt := Pt6.lt
  go_wp2_with fail
  have Pr6' := Box.new w6 #[.int .i64 3, .int .i64 3, .int .i64 7, .int .i64 5, .int .i64 0, .int .i64 0] 24
  have Pg6' := Pg6.alloc (.cells #[.int .i64 3, .int .i64 3, .int .i64 7, .int .i64 5, .int .i64 0, .int .i64 0] 24)
  have Pt6' := Pt6.alloc (.cells #[.int .i64 3, .int .i64 3, .int .i64 7, .int .i64 5, .int .i64 0, .int .i64 0] 24)
  have A6' := A6.alloc A6.size (.cells #[.int .i64 3, .int .i64 3, .int .i64 7, .int .i64 5, .int .i64 0, .int .i64 0] 24)
  clear Pg6 Pt6 A6
  have Pg6 := Pg6'
  have Pt6 := Pt6'
  have Pr6 := Pr6'
  have A6 := A6'
  clear Pg6' Pt6' Pr6' A6'
  refine (permute_A 3 (w6.heap.size + 1) 0 (Nat.le_refl _) _ (by simp) (Joins.cell_alloc_mark_at _ _ _ (0, 0) _ 0 (by simp)) (Joins.cell_alloc_mark_at _ _ _ (0, 0) _ 1 (by simp)) (Joins.cell_alloc_mark_at _ _ _ (0, 0) _ 2 (by simp))).mono ?_
  rintro e w7 ⟨rfl, hb7⟩
  have Pg7 := (Pg6.alloc (.cells #[.int .i64 1, .int .i64 2, .int .i64 0] 3)).below hb7 (Pg6.alloc (.cells #[.int .i64 1, .int .i64 2, .int .i64 0] 3)).lt
  have Pt7 := (Pt6.alloc (.cells #[.int .i64 1, .int .i64 2, .int .i64 0] 3)).below hb7 (Pt6.alloc (.cells #[.int .i64 1, .int .i64 2, .int .i64 0] 3)).lt
  have Pr7 := (Pr6.alloc (.cells #[.int .i64 1, .int .i64 2, .int .i64 0] 3)).below hb7 (Pr6.alloc (.cells #[.int .i64 1, .int .i64 2, .int .i64 0] 3)).lt
  have A7 := (A6.alloc A6.size (.cells #[.int .i64 1, .int .i64 2, .int .i64 0] 3)).trans (Joins.below_le hb7 (A6.alloc A6.size (.cells #[.int .i64 1, .int .i64 2, .int .i64 0] 3)).size)
  clear Pg6 Pt6 Pr6 A6 hb7 g0 g1 g2 g3 g4 g5 lg t0 t1 t2 t3 t4 t5 lt
  obtain ⟨⟨g0, g1, g2, g3, g4, g5⟩, _⟩ := Pg7.six
  have lg := Pg7.lt
  obtain ⟨⟨t0, t1, t2, t3, t4, t5⟩, _⟩ := Pt7.six
  have lt := Pt7.lt
  obtain ⟨⟨r0, r1, r2, r3, r4, r5⟩, _⟩ := Pr7.six
  have lr := Pr7.lt
  go_wp2_with fail
  have Pn7' := Box.new w7 #[.int .i64 3, .int .i64 5, .int .i64 7, .int .i64 6, .int .i64 0, .int .i64 0] 24
  have Pg7' := Pg7.alloc (.cells #[.int .i64 3, .int .i64 5, .int .i64 7, .int .i64 6, .int .i64 0, .int .i64 0] 24)
  have Pt7' := Pt7.alloc (.cells #[.int .i64 3, .int .i64 5, .int .i64 7, .int .i64 6, .int .i64 0, .int .i64 0] 24)
  have Pr7' := Pr7.alloc (.cells #[.int .i64 3, .int .i64 5, .int .i64 7, .int .i64 6, .int .i64 0, .int .i64 0] 24)
  have A7' := A7.alloc A7.size (.cells #[.int .i64 3, .int .i64 5, .int .i64 7, .int .i64 6, .int .i64 0, .int .i64 0] 24)
  clear Pg7 Pt7 Pr7 A7
  have Pg7 := Pg7'
  have Pt7 := Pt7'
  have Pr7 := Pr7'
  have Pn7 := Pn7'
  have A7 := A7'
  clear Pg7' Pt7' Pr7' Pn7' A7'
  refine (format_B _).mono ?_
  rintro e w8 ⟨rfl, hb8⟩
  have Pg8 := Pg7.below hb8 Pg7.lt
  have Pt8 := Pt7.below hb8 Pt7.lt
  have Pr8 := Pr7.below hb8 Pr7.lt
  have Pn8 := Pn7.below hb8 Pn7.lt
  have A8 := A7.trans (Joins.below_le hb8 A7.size)
  clear Pg7 Pt7 Pr7 Pn7 A7 hb8 g0 g1 g2 g3 g4 g5 lg t0 t1 t2 t3 t4 t5 lt r0 r1 r2 r3 r4 r5 lr
  obtain ⟨⟨g0, g1, g2, g3, g4, g5⟩, _⟩ := Pg8.six
  have lg := Pg8.lt
  obtain ⟨⟨t0, t1, t2, t3, t4, t5⟩, _⟩ := Pt8.six
  have lt := Pt8.lt
  obtain ⟨⟨r0, r1, r2, r3, r4, r5⟩, _⟩ := Pr8.six
  have lr := Pr8.lt
  obtain ⟨⟨n0, n1, n2, n3, n4, n5⟩, _⟩ := Pn8.six
  have ln := Pn8.lt
  go_wp2_with fail
  refine (format_C _).mono ?_
  rintro e w9 ⟨rfl, hb9⟩
  have Pg9 := Pg8.below hb9 Pg8.lt
  have Pt9 := Pt8.below hb9 Pt8.lt
  have Pr9 := Pr8.below hb9 Pr8.lt
  have Pn9 := Pn8.below hb9 Pn8.lt
  have A9 := A8.trans (Joins.below_le hb9 A8.size)
  clear Pg8 Pt8 Pr8 Pn8 A8 hb9 g0 g1 g2 g3 g4 g5 lg t0 t1 t2 t3 t4 t5 lt r0 r1 r2 r3 r4 r5 lr n0 n1 n2 n3 n4 n5 ln
  obtain ⟨⟨g0, g1, g2, g3, g4, g5⟩, _⟩ := Pg9.six
  have lg := Pg9.lt
  obtain ⟨⟨t0, t1, t2, t3, t4, t5⟩, _⟩ := Pt9.six
  have lt := Pt9.lt
  obtain ⟨⟨r0, r1, r2, r3, r4, r5⟩, _⟩ := Pr9.six
  have lr := Pr9.lt
  obtain ⟨⟨n0, n1, n2, n3, n4, n5⟩, _⟩ := Pn9.six
  have ln := Pn9.lt
  go_wp2_with fail
  refine (format_D _).mono ?_
  rintro e w10 ⟨rfl, hb10⟩
  have Pg10 := Pg9.below hb10 Pg9.lt
  have Pt10 := Pt9.below hb10 Pt9.lt
  have Pr10 := Pr9.below hb10 Pr9.lt
  have Pn10 := Pn9.below hb10 Pn9.lt
  have A10 := A9.trans (Joins.below_le hb10 A9.size)
  clear Pg9 Pt9 Pr9 Pn9 A9 hb10 g0 g1 g2 g3 g4 g5 lg t0 t1 t2 t3 t4 t5 lt r0 r1 r2 r3 r4 r5 lr n0 n1 n2 n3 n4 n5 ln
  obtain ⟨⟨g0, g1, g2, g3, g4, g5⟩, _⟩ := Pg10.six
  have lg := Pg10.lt
  obtain ⟨⟨t0, t1, t2, t3, t4, t5⟩, _⟩ := Pt10.six
  have lt := Pt10.lt
  obtain ⟨⟨r0, r1, r2, r3, r4, r5⟩, _⟩ := Pr10.six
  have lr := Pr10.lt
  obtain ⟨⟨n0, n1, n2, n3, n4, n5⟩, _⟩ := Pn10.six
  have ln := Pn10.lt
  go_wp2_with fail
  refine (parse_B _).mono ?_
  rintro e w11 ⟨rfl, hb11⟩
  have Pg11 := Pg10.below hb11 Pg10.lt
  have Pt11 := Pt10.below hb11 Pt10.lt
  have Pr11 := Pr10.below hb11 Pr10.lt
  have Pn11 := Pn10.below hb11 Pn10.lt
  have A11 := A10.trans (Joins.below_le hb11 A10.size)
  clear Pg10 Pt10 Pr10 Pn10 A10 hb11 g0 g1 g2 g3 g4 g5 lg t0 t1 t2 t3 t4 t5 lt r0 r1 r2 r3 r4 r5 lr n0 n1 n2 n3 n4 n5 ln
  obtain ⟨⟨g0, g1, g2, g3, g4, g5⟩, _⟩ := Pg11.six
  have lg := Pg11.lt
  obtain ⟨⟨t0, t1, t2, t3, t4, t5⟩, _⟩ := Pt11.six
  have lt := Pt11.lt
  obtain ⟨⟨r0, r1, r2, r3, r4, r5⟩, _⟩ := Pr11.six
  have lr := Pr11.lt
  obtain ⟨⟨n0, n1, n2, n3, n4, n5⟩, _⟩ := Pn11.six
  have ln := Pn11.lt
  go_wp2_with fail
  go_ret
  exact ⟨rfl, A11.alloc A11.size _⟩
end Go.Proofs.YtacnhklhimogkaaDoor
