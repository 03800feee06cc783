/- What the functions of the package graph answer at the chapter's example. -/
import Derived.Test.YtacnhklhimogkaaDoorRows
import Derived.Test.YtacnhklhimogkaaDoorShelf
import Derived.Test.YtacnhklhimogkaaDoorT
import Derived.Test.YtacnhklhimogkaaDoorTb
import Derived.Test.YtacnhklhimogkaaDoorGrM
import Derived.Test.YtacnhklhimogkaaDoorGrA
import Derived.Test.YtacnhklhimogkaaDoorGrB
import Derived.Test.YtacnhklhimogkaaDoorGrC
import Derived.Test.YtacnhklhimogkaaDoorGrD
import Derived.Test.YtacnhklhimogkaaDoorGrE
import Derived.Test.YtacnhklhimogkaaDoorGrR
import Derived.Test.YtacnhklhimogkaaDoorPmA
import Derived.Test.YtacnhklhimogkaaDoorPmM
import Derived.Test.YtacnhklhimogkaaDoorPmB
import Derived.Test.YtacnhklhimogkaaDoorPmC
import Derived.Test.YtacnhklhimogkaaDoorPmD
import Derived.Test.YtacnhklhimogkaaDoorAwA
import Derived.Test.YtacnhklhimogkaaDoorAwB
import Derived.Test.YtacnhklhimogkaaDoorAwC
import Derived.Test.YtacnhklhimogkaaDoorRb
import Derived.WalkKit
import Derived.WalkSpells
import Derived.WalkLawsBesides
import Derived.Handy
import Derived.Deep.QuietTactic
import Derived.BigQuiet
import Derived.Outline
import Derived.Laws.BitsAllLaws
import Derived.IntWalk
import Derived.Lib.SmallJoins
import Derived.Lib.Hide
namespace Go.Proofs.YtacnhklhimogkaaDoor
set_option linter.unusedVariables false
set_option linter.unusedSimpArgs false
open Go.RowKit



def kA (i : Nat) : Nat := if i = 0 then 7 else if i = 1 then 3 else if i = 2 then 6 else 0
theorem wfA : WF 3 kA := by
  refine ⟨by decide, by decide, fun p h1 h2 => ?_⟩
  obtain rfl | rfl : p = 3 ∨ p = 4 := by omega
  · rfl
  · rfl
theorem gvA : gv 3 kA = .agg #[.int .i64 3, .int .i64 7, .int .i64 3, .int .i64 6, .int .i64 0, .int .i64 0] := rfl

def kB (i : Nat) : Nat := if i = 0 then 7 else if i = 1 then 7 else if i = 2 then 7 else 0
theorem wfB : WF 3 kB := by
  refine ⟨by decide, by decide, fun p h1 h2 => ?_⟩
  obtain rfl | rfl : p = 3 ∨ p = 4 := by omega
  · rfl
  · rfl
theorem gvB : gv 3 kB = .agg #[.int .i64 3, .int .i64 7, .int .i64 7, .int .i64 7, .int .i64 0, .int .i64 0] := rfl

def kC (i : Nat) : Nat := if i = 0 then 3 else if i = 1 then 7 else if i = 2 then 5 else 0
theorem wfC : WF 3 kC := by
  refine ⟨by decide, by decide, fun p h1 h2 => ?_⟩
  obtain rfl | rfl : p = 3 ∨ p = 4 := by omega
  · rfl
  · rfl
theorem gvC : gv 3 kC = .agg #[.int .i64 3, .int .i64 3, .int .i64 7, .int .i64 5, .int .i64 0, .int .i64 0] := rfl

def kD (i : Nat) : Nat := if i = 0 then 5 else if i = 1 then 7 else if i = 2 then 6 else 0
theorem wfD : WF 3 kD := by
  refine ⟨by decide, by decide, fun p h1 h2 => ?_⟩
  obtain rfl | rfl : p = 3 ∨ p = 4 := by omega
  · rfl
  · rfl
theorem gvD : gv 3 kD = .agg #[.int .i64 3, .int .i64 5, .int .i64 7, .int .i64 6, .int .i64 0, .int .i64 0] := rfl

theorem gv_eq {a b : Nat → Nat} (h : ∀ p, p < 5 → a p = b p) : gv 3 a = gv 3 b := by
  unfold gv; rw [h 0 (by omega), h 1 (by omega), h 2 (by omega), h 3 (by omega), h 4 (by omega)]
theorem prodAA : gv 3 (prod 3 kA kA) = gv 3 kB := gv_eq (by decide)
theorem prodBA : gv 3 (prod 3 kB kA) = gv 3 kB := gv_eq (by decide)
theorem revA : gv 3 (rev 3 kA) = gv 3 kC := gv_eq (by decide)
def turn (i : Nat) : Nat := if i = 0 then 1 else if i = 1 then 2 else 0
theorem pgrA : gv 3 (pgr 3 turn kA 3) = gv 3 kD := gv_eq (by decide)
theorem perm_turn : Perm 3 turn := by
  refine ⟨by decide, fun p q hp hq h => ?_⟩
  obtain rfl | rfl | rfl : p = 0 ∨ p = 1 ∨ p = 2 := by omega
  all_goals
    obtain rfl | rfl | rfl : q = 0 ∨ q = 1 ∨ q = 2 := by omega
    all_goals first | rfl | (exact absurd h (by decide))

theorem compose_AA (w : World) : Calls Tryd.prog 34 #[.agg #[.int .i64 3, .int .i64 7, .int .i64 3, .int .i64 6, .int .i64 0, .int .i64 0], .agg #[.int .i64 3, .int .i64 7, .int .i64 3, .int .i64 6, .int .i64 0, .int .i64 0]] w fun e w' => e = .returned (.tuple #[.agg #[.int .i64 3, .int .i64 7, .int .i64 7, .int .i64 7, .int .i64 0, .int .i64 0], .int .i64 0]) ∧ Below w.heap.size w w' := by
  have h := compose_ok 3 kA kA wfA wfA w
  rw [prodAA, gvB, gvA] at h
  exact h
theorem product_AA (w : World) : Calls Tryd.prog 54 #[.agg #[.int .i64 3, .int .i64 7, .int .i64 3, .int .i64 6, .int .i64 0, .int .i64 0], .agg #[.int .i64 3, .int .i64 7, .int .i64 3, .int .i64 6, .int .i64 0, .int .i64 0]] w fun e w' => e = .returned (.agg #[.int .i64 3, .int .i64 7, .int .i64 7, .int .i64 7, .int .i64 0, .int .i64 0]) ∧ Below w.heap.size w w' := by
  have h := product_ok 3 kA kA wfA wfA w
  rw [prodAA, gvB, gvA] at h
  exact h
theorem product_BA (w : World) : Calls Tryd.prog 54 #[.agg #[.int .i64 3, .int .i64 7, .int .i64 7, .int .i64 7, .int .i64 0, .int .i64 0], .agg #[.int .i64 3, .int .i64 7, .int .i64 3, .int .i64 6, .int .i64 0, .int .i64 0]] w fun e w' => e = .returned (.agg #[.int .i64 3, .int .i64 7, .int .i64 7, .int .i64 7, .int .i64 0, .int .i64 0]) ∧ Below w.heap.size w w' := by
  have h := product_ok 3 kB kA wfB wfA w
  rw [prodBA, gvB, gvA] at h
  exact h
theorem kernel_B (w : World) : Calls Tryd.prog 52 #[.agg #[.int .i64 3, .int .i64 7, .int .i64 7, .int .i64 7, .int .i64 0, .int .i64 0]] w fun e w' => e = .returned (.int .i64 7) ∧ Below w.heap.size w w' := by
  have h := kernel_ok 3 kB wfB w
  rw [gvB, show ker 3 kB 3 = 7 by decide] at h
  exact h
theorem Kernel_A (w : World) : Calls Tryd.prog 21 #[.agg #[.int .i64 3, .int .i64 7, .int .i64 3, .int .i64 6, .int .i64 0, .int .i64 0]] w fun e w' => e = .returned (.tuple #[.int .i64 2, .int .i64 0]) ∧ Below w.heap.size w w' := by
  have h := Kernel_ok 3 kA wfA w
  rw [gvA, show ker 3 kA 3 = 2 by decide] at h
  exact h
theorem reverse_A (w : World) : Calls Tryd.prog 45 #[.agg #[.int .i64 3, .int .i64 7, .int .i64 3, .int .i64 6, .int .i64 0, .int .i64 0]] w fun e w' => e = .returned (.tuple #[.agg #[.int .i64 3, .int .i64 3, .int .i64 7, .int .i64 5, .int .i64 0, .int .i64 0], .int .i64 0]) ∧ Below w.heap.size w w' := by
  have h := reverse_ok 3 kA wfA w
  rw [revA, gvC, gvA] at h
  exact h
theorem permute_A (cap b off : Nat) (hc : 3 ≤ cap) (w : World) (hb : b < w.heap.size) (h0 : w.cell? ⟨b, off, none⟩ = some (.int .i64 1)) (h1 : w.cell? ⟨b, off + 1, none⟩ = some (.int .i64 2)) (h2 : w.cell? ⟨b, off + 2, none⟩ = some (.int .i64 0)) :
    Calls Tryd.prog 46 #[.agg #[.int .i64 3, .int .i64 7, .int .i64 3, .int .i64 6, .int .i64 0, .int .i64 0], .slice (some ⟨b, off, none⟩) 3 cap] w fun e w' => e = .returned (.tuple #[.agg #[.int .i64 3, .int .i64 5, .int .i64 7, .int .i64 6, .int .i64 0, .int .i64 0], .int .i64 0]) ∧ Below w.heap.size w w' := by
  have h := permute_ok 3 cap b off turn kA wfA hc perm_turn w ⟨hb, fun i hi => by
    obtain rfl | rfl | rfl : i = 0 ∨ i = 1 ∨ i = 2 := by omega
    · exact h0
    · exact h1
    · exact h2⟩
  rw [pgrA, gvD, gvA] at h
  exact h

theorem check_A (w : World) : Calls Tryd.prog 12 #[.agg #[.int .i64 3, .int .i64 7, .int .i64 3, .int .i64 6, .int .i64 0, .int .i64 0]] w fun e w' => e = .returned (.int .i64 0) ∧ Below w.heap.size w w' := by
  have h := check_ok 3 kA wfA w
  rw [gvA] at h
  exact h

theorem check_B (w : World) : Calls Tryd.prog 12 #[.agg #[.int .i64 3, .int .i64 7, .int .i64 7, .int .i64 7, .int .i64 0, .int .i64 0]] w fun e w' => e = .returned (.int .i64 0) ∧ Below w.heap.size w w' := by
  have h := check_ok 3 kB wfB w
  rw [gvB] at h
  exact h

theorem check_C (w : World) : Calls Tryd.prog 12 #[.agg #[.int .i64 3, .int .i64 3, .int .i64 7, .int .i64 5, .int .i64 0, .int .i64 0]] w fun e w' => e = .returned (.int .i64 0) ∧ Below w.heap.size w w' := by
  have h := check_ok 3 kC wfC w
  rw [gvC] at h
  exact h

theorem check_D (w : World) : Calls Tryd.prog 12 #[.agg #[.int .i64 3, .int .i64 5, .int .i64 7, .int .i64 6, .int .i64 0, .int .i64 0]] w fun e w' => e = .returned (.int .i64 0) ∧ Below w.heap.size w w' := by
  have h := check_ok 3 kD wfD w
  rw [gvD] at h
  exact h

set_option maxHeartbeats 400000 in
theorem format_B (w : World) : Calls Tryd.prog 27 #[.agg #[.int .i64 3, .int .i64 7, .int .i64 7, .int .i64 7, .int .i64 0, .int .i64 0]] w fun e w' => e = .returned (.tuple #[.string { data := #[48, 49, 50, 32, 48, 49, 50, 32, 48, 49, 50] }, .int .i64 0]) ∧ Below w.heap.size w w' := by
  go_enter Tryd.func27, Tryd.ntmps27
  go_wp2_with fail
  refine (check_B _).mono ?_
  rintro e w1 ⟨rfl, hb1⟩
  have B1 := fresh_below hb1
  obtain ⟨hc, hf⟩ := bcell hb1
  have hz0 : w.heap.size < w1.heap.size := by have := hb1.size; simp at this; omega
  go_wp2_with fail
  refine (text_B _).mono ?_
  rintro e w2 ⟨rfl, hb2⟩
  go_wp2_with fail
  go_ret2
  exact ⟨rfl, B1.trans (Joins.below_le hb2 B1.size)⟩

set_option maxHeartbeats 400000 in
theorem format_C (w : World) : Calls Tryd.prog 27 #[.agg #[.int .i64 3, .int .i64 3, .int .i64 7, .int .i64 5, .int .i64 0, .int .i64 0]] w fun e w' => e = .returned (.tuple #[.string { data := #[48, 49, 32, 48, 49, 50, 32, 48, 50] }, .int .i64 0]) ∧ Below w.heap.size w w' := by
  go_enter Tryd.func27, Tryd.ntmps27
  go_wp2_with fail
  refine (check_C _).mono ?_
  rintro e w1 ⟨rfl, hb1⟩
  have B1 := fresh_below hb1
  obtain ⟨hc, hf⟩ := bcell hb1
  have hz0 : w.heap.size < w1.heap.size := by have := hb1.size; simp at this; omega
  go_wp2_with fail
  refine (text_C _).mono ?_
  rintro e w2 ⟨rfl, hb2⟩
  go_wp2_with fail
  go_ret2
  exact ⟨rfl, B1.trans (Joins.below_le hb2 B1.size)⟩

set_option maxHeartbeats 400000 in
theorem format_D (w : World) : Calls Tryd.prog 27 #[.agg #[.int .i64 3, .int .i64 5, .int .i64 7, .int .i64 6, .int .i64 0, .int .i64 0]] w fun e w' => e = .returned (.tuple #[.string { data := #[48, 50, 32, 48, 49, 50, 32, 49, 50] }, .int .i64 0]) ∧ Below w.heap.size w w' := by
  go_enter Tryd.func27, Tryd.ntmps27
  go_wp2_with fail
  refine (check_D _).mono ?_
  rintro e w1 ⟨rfl, hb1⟩
  have B1 := fresh_below hb1
  obtain ⟨hc, hf⟩ := bcell hb1
  have hz0 : w.heap.size < w1.heap.size := by have := hb1.size; simp at this; omega
  go_wp2_with fail
  refine (text_D _).mono ?_
  rintro e w2 ⟨rfl, hb2⟩
  go_wp2_with fail
  go_ret2
  exact ⟨rfl, B1.trans (Joins.below_le hb2 B1.size)⟩

set_option maxHeartbeats 1000000 in
theorem roots_A (w : World) : Calls Tryd.prog 23 #[.agg #[.int .i64 3, .int .i64 7, .int .i64 3, .int .i64 6, .int .i64 0, .int .i64 0]] w fun e w' => e = .returned (.tuple #[.int .i64 7, .int .i64 0]) ∧ Below w.heap.size w w' := by
  go_enter Tryd.func23, Tryd.ntmps23
  go_wp2_with fail
  refine (check_A _).mono ?_
  rintro e w1 ⟨rfl, hb1⟩
  obtain ⟨hc, hf⟩ := bcell hb1
  have B1 := fresh_below hb1
  have hz0 : w.heap.size < w1.heap.size := by have := hb1.size; simp at this; omega
  go_wp2_with fail
  have G1 : Box w1 w.heap.size #[.int .i64 3, .int .i64 7, .int .i64 3, .int .i64 6, .int .i64 0, .int .i64 0] 24 := (Box.new w _ _).below hb1 (by simp)
  refine wp_loop_rounds 4 ?_
  rw [rounds_succ]
  go_wp2_with fail
  refine (product_AA _).mono ?_
  rintro e w2 ⟨rfl, hb2⟩
  have P1 : Box (w1.alloc (.cells #[.int .i64 3, .int .i64 7, .int .i64 3, .int .i64 6, .int .i64 0, .int .i64 0] 24)) w1.heap.size #[.int .i64 3, .int .i64 7, .int .i64 3, .int .i64 6, .int .i64 0, .int .i64 0] 24 := Box.new w1 _ _
  have H1 := G1.alloc (.cells #[.int .i64 3, .int .i64 7, .int .i64 3, .int .i64 6, .int .i64 0, .int .i64 0] 24)
  have A1 := B1.alloc B1.size (.cells #[.int .i64 3, .int .i64 7, .int .i64 3, .int .i64 6, .int .i64 0, .int .i64 0] 24)
  have P2 := P1.below hb2 P1.lt
  have H2 := H1.below hb2 H1.lt
  have A2 := A1.trans (Joins.below_le hb2 A1.size)
  clear P1 H1 A1 hb2
  obtain ⟨⟨q0, q1, q2, q3, q4, q5⟩, f0, f1, f2, f3, f4, f5⟩ := P2.six
  obtain ⟨⟨r0, r1, r2, r3, r4, r5⟩, _⟩ := H2.six
  have S2 := Lib.hid (P2.put6 (.int .i64 3) (.int .i64 7) (.int .i64 7) (.int .i64 7) (.int .i64 0) (.int .i64 0))
  have T2 := Lib.hid (H2.put6Other (d := w1.heap.size) (by omega) (.int .i64 3) (.int .i64 7) (.int .i64 7) (.int .i64 7) (.int .i64 0) (.int .i64 0))
  have U2 := Lib.hid (below_put6 A2 (b := w1.heap.size) B1.size (.int .i64 3) (.int .i64 7) (.int .i64 7) (.int .i64 7) (.int .i64 0) (.int .i64 0))
  clear P2 H2 A2
  go_wp2_with fail
  clear q0 q1 q2 q3 q4 q5 f0 f1 f2 f3 f4 f5 r0 r1 r2 r3 r4 r5
  have P2 := S2.out
  have H2 := T2.out
  have A2 := U2.out
  clear S2 T2 U2
  simp only [put6] at P2 H2 A2
  obtain ⟨V2, hV2⟩ : ∃ V, (put6 w2 w1.heap.size (.int .i64 3) (.int .i64 7) (.int .i64 7) (.int .i64 7) (.int .i64 0) (.int .i64 0)) = V := ⟨_, rfl⟩
  simp only [put6] at hV2
  rw [hV2] at P2 H2 A2 ⊢
  clear hV2
  obtain ⟨⟨q0, q1, q2, q3, q4, q5⟩, f0, f1, f2, f3, f4, f5⟩ := P2.six
  obtain ⟨⟨r0, r1, r2, r3, r4, r5⟩, _⟩ := H2.six
  rw [rounds_succ]
  go_wp2_with fail
  refine (product_BA _).mono ?_
  rintro e w3 ⟨rfl, hb3⟩
  have P3 := P2.below hb3 P2.lt
  have H3 := H2.below hb3 H2.lt
  have A3 := A2.trans (Joins.below_le hb3 A2.size)
  clear P2 H2 A2 hb3
  obtain ⟨⟨q0, q1, q2, q3, q4, q5⟩, f0, f1, f2, f3, f4, f5⟩ := P3.six
  obtain ⟨⟨r0, r1, r2, r3, r4, r5⟩, _⟩ := H3.six
  have S3 := Lib.hid (P3.put6 (.int .i64 3) (.int .i64 7) (.int .i64 7) (.int .i64 7) (.int .i64 0) (.int .i64 0))
  have T3 := Lib.hid (H3.put6Other (d := w1.heap.size) (by omega) (.int .i64 3) (.int .i64 7) (.int .i64 7) (.int .i64 7) (.int .i64 0) (.int .i64 0))
  have U3 := Lib.hid (below_put6 A3 (b := w1.heap.size) B1.size (.int .i64 3) (.int .i64 7) (.int .i64 7) (.int .i64 7) (.int .i64 0) (.int .i64 0))
  clear P3 H3 A3
  go_wp2_with fail
  clear q0 q1 q2 q3 q4 q5 f0 f1 f2 f3 f4 f5 r0 r1 r2 r3 r4 r5
  have P3 := S3.out
  have H3 := T3.out
  have A3 := U3.out
  clear S3 T3 U3
  simp only [put6] at P3 H3 A3
  obtain ⟨V3, hV3⟩ : ∃ V, (put6 w3 w1.heap.size (.int .i64 3) (.int .i64 7) (.int .i64 7) (.int .i64 7) (.int .i64 0) (.int .i64 0)) = V := ⟨_, rfl⟩
  simp only [put6] at hV3
  rw [hV3] at P3 H3 A3 ⊢
  clear hV3
  obtain ⟨⟨q0, q1, q2, q3, q4, q5⟩, f0, f1, f2, f3, f4, f5⟩ := P3.six
  obtain ⟨⟨r0, r1, r2, r3, r4, r5⟩, _⟩ := H3.six
  rw [rounds_succ]
  go_wp2_with fail
  refine (product_BA _).mono ?_
  rintro e w4 ⟨rfl, hb4⟩
  have P4 := P3.below hb4 P3.lt
  have H4 := H3.below hb4 H3.lt
  have A4 := A3.trans (Joins.below_le hb4 A3.size)
  clear P3 H3 A3 hb4
  obtain ⟨⟨q0, q1, q2, q3, q4, q5⟩, f0, f1, f2, f3, f4, f5⟩ := P4.six
  obtain ⟨⟨r0, r1, r2, r3, r4, r5⟩, _⟩ := H4.six
  have S4 := Lib.hid (P4.put6 (.int .i64 3) (.int .i64 7) (.int .i64 7) (.int .i64 7) (.int .i64 0) (.int .i64 0))
  have T4 := Lib.hid (H4.put6Other (d := w1.heap.size) (by omega) (.int .i64 3) (.int .i64 7) (.int .i64 7) (.int .i64 7) (.int .i64 0) (.int .i64 0))
  have U4 := Lib.hid (below_put6 A4 (b := w1.heap.size) B1.size (.int .i64 3) (.int .i64 7) (.int .i64 7) (.int .i64 7) (.int .i64 0) (.int .i64 0))
  clear P4 H4 A4
  go_wp2_with fail
  clear q0 q1 q2 q3 q4 q5 f0 f1 f2 f3 f4 f5 r0 r1 r2 r3 r4 r5
  have P4 := S4.out
  have H4 := T4.out
  have A4 := U4.out
  clear S4 T4 U4
  simp only [put6] at P4 H4 A4
  obtain ⟨V4, hV4⟩ : ∃ V, (put6 w4 w1.heap.size (.int .i64 3) (.int .i64 7) (.int .i64 7) (.int .i64 7) (.int .i64 0) (.int .i64 0)) = V := ⟨_, rfl⟩
  simp only [put6] at hV4
  rw [hV4] at P4 H4 A4 ⊢
  clear hV4
  obtain ⟨⟨q0, q1, q2, q3, q4, q5⟩, f0, f1, f2, f3, f4, f5⟩ := P4.six
  obtain ⟨⟨r0, r1, r2, r3, r4, r5⟩, _⟩ := H4.six
  rw [rounds_succ]
  go_wp2_with fail
  refine (kernel_B _).mono ?_
  rintro e w5 ⟨rfl, hb5⟩
  go_wp2_with fail
  go_ret2
  exact ⟨rfl, A4.trans (Joins.below_le hb5 A4.size)⟩

set_option maxHeartbeats 1000000 in
theorem edges_A (w : World) : Calls Tryd.prog 19 #[.agg #[.int .i64 3, .int .i64 7, .int .i64 3, .int .i64 6, .int .i64 0, .int .i64 0]] w fun e w' => e = .returned (.tuple #[.int .i64 4, .int .i64 0]) ∧ Below w.heap.size w w' := by
  go_enter Tryd.func19, Tryd.ntmps19
  go_wp2_with fail
  refine (check_A _).mono ?_
  rintro e w1 ⟨rfl, hb1⟩
  obtain ⟨hc, hf⟩ := bcell hb1
  have B1 := fresh_below hb1
  have hz0 : w.heap.size < w1.heap.size := by have := hb1.size; simp at this; omega
  go_wp2_with fail
  go_rounds 4
  go_ret2
  exact ⟨by kernel_rfl, B1⟩

set_option maxHeartbeats 1000000 in
theorem parse_A (w : World) : Calls Tryd.prog 29 #[.string { data := #[48, 49, 50, 32, 48, 49, 32, 49, 50] }] w fun e w' => e = .returned (.tuple #[.agg #[.int .i64 3, .int .i64 7, .int .i64 3, .int .i64 6, .int .i64 0, .int .i64 0], .int .i64 0]) ∧ Below w.heap.size w w' := by
  go_enter Tryd.func29, Tryd.ntmps29
  go_wp2_with fail
  refine (split_A _).mono ?_
  rintro e w1 ⟨rfl, rfl⟩
  go_wp2_with fail
  refine (rowsB3 59 _ (fun p => ((kA p : Nat) : Int)) _ (fun args w => by kernel_rfl) ?_).mono ?_
  · intro p W hp hW
    have c0 : W.cell? ⟨w.heap.size + 1 + 1, 0, none⟩ = some (.slice (some ⟨w.heap.size + 1, 0, none⟩) 3 3) := by
      rw [hW.cell (p := ⟨w.heap.size + 1 + 1, 0, none⟩) (by simp)]
      exact Joins.cell_alloc_mark_at _ _ _ (0, 0) _ 0 (by simp)
    have c1 : ∀ i, W.cell? ⟨w.heap.size + 1, i, none⟩ = (#[.string { data := #[48, 49, 50] }, .string { data := #[48, 49] }, .string { data := #[49, 50] }] : Array Value)[i]? := fun i => by
      rw [hW.cell (p := ⟨w.heap.size + 1, i, none⟩) (by simp)]
      refine (World.cell?_alloc_lt _ _ _ (by simp)).trans (Joins.cell_alloc_mark_at _ _ _ (0, 0) _ i (by simp))
    obtain rfl | rfl | rfl : p = 0 ∨ p = 1 ∨ p = 2 := by omega
    · exact prow_A0 W _ _ c0 (c1 0)
    · exact prow_A1 W _ _ c0 (c1 1)
    · exact prow_A2 W _ _ c0 (c1 2)
  rintro e w1 ⟨rfl, hb1⟩
  rw [show ((kA 0 : Nat) : Int) = 7 from rfl, show ((kA 1 : Nat) : Int) = 3 from rfl, show ((kA 2 : Nat) : Int) = 6 from rfl]
  obtain ⟨V0, hV0⟩ : ∃ V, (((w.alloc (.cells #[.int .i64 0, .int .i64 0, .int .i64 0, .int .i64 0, .int .i64 0, .int .i64 0] 24)).alloc (.cells #[.string { data := #[48, 49, 50] }, .string { data := #[48, 49] }, .string { data := #[49, 50] }] 9)).alloc (.cells #[.slice (some ⟨w.heap.size + 1, 0, none⟩) 3 3] 80)) = V := ⟨_, rfl⟩
  rw [hV0] at hb1
  have P0 : Box V0 w.heap.size #[.int .i64 0, .int .i64 0, .int .i64 0, .int .i64 0, .int .i64 0, .int .i64 0] 24 := by rw [← hV0]; exact ((Box.new w _ _).alloc _).alloc _
  have A0 : Below w.heap.size w V0 := by rw [← hV0]; exact (((Below.refl w.heap.size w).alloc (Nat.le_refl _) _).alloc (by simp) _).alloc (by simp; omega) _
  clear hV0
  have P1 := P0.below hb1 P0.lt
  have A1 := A0.trans (Joins.below_le hb1 A0.size)
  clear P0 A0 hb1
  obtain ⟨⟨q0, q1, q2, q3, q4, q5⟩, f0, f1, f2, f3, f4, f5⟩ := P1.six
  go_wp2_with fail
  refine (check_A _).mono ?_
  rintro e w2 ⟨rfl, hb2⟩
  have D1 := Box.new w1 #[.int .i64 3, .int .i64 7, .int .i64 3, .int .i64 6, .int .i64 0, .int .i64 0] 24
  have P1' := P1.alloc (.cells #[.int .i64 3, .int .i64 7, .int .i64 3, .int .i64 6, .int .i64 0, .int .i64 0] 24)
  have A1' := A1.alloc A1.size (.cells #[.int .i64 3, .int .i64 7, .int .i64 3, .int .i64 6, .int .i64 0, .int .i64 0] 24)
  have D2 := D1.below hb2 D1.lt
  have P2 := P1'.below hb2 P1'.lt
  have A2 := A1'.trans (Joins.below_le hb2 A1'.size)
  clear P1 A1 D1 P1' A1' hb2 q0 q1 q2 q3 q4 q5 f0 f1 f2 f3 f4 f5
  obtain ⟨⟨q0, q1, q2, q3, q4, q5⟩, f0, f1, f2, f3, f4, f5⟩ := P2.six
  obtain ⟨⟨d0, d1, d2, d3, d4, d5⟩, _⟩ := D2.six
  go_wp2_with fail
  refine (text_A _).mono ?_
  rintro e w3 ⟨rfl, hb3⟩
  have P3 := P2.below hb3 P2.lt
  have D3 := D2.below hb3 D2.lt
  have A3 := A2.trans (Joins.below_le hb3 A2.size)
  clear P2 A2 D2 hb3 d0 d1 d2 d3 d4 d5 q0 q1 q2 q3 q4 q5 f0 f1 f2 f3 f4 f5
  obtain ⟨⟨q0, q1, q2, q3, q4, q5⟩, f0, f1, f2, f3, f4, f5⟩ := P3.six
  obtain ⟨⟨d0, d1, d2, d3, d4, d5⟩, _⟩ := D3.six
  go_wp2_with fail
  refine bodyPost_ret (v := .tuple #[.agg #[.int .i64 3, .int .i64 7, .int .i64 3, .int .i64 6, .int .i64 0, .int .i64 0], .int .i64 0]) (by simp [results, Tryd.results29, go_sem, q0, q1, q2, q3, q4, q5, f0, f1, f2, f3, f4, f5]) rfl ⟨rfl, ?_⟩
  repeat' (first | (with_reducible exact A3) | (with_reducible refine Below.setCell ?_ ?_ _) | go_size)

def kBad (i : Nat) : Nat := if i = 0 then 3 else 1

set_option maxHeartbeats 400000 in
theorem check_bad (w : World) :
    Calls Tryd.prog 12 #[.agg #[.int .i64 2, .int .i64 3, .int .i64 1, .int .i64 0, .int .i64 0, .int .i64 0]] w
      fun e w' => e = .returned (.int .i64 3) ∧ Below w.heap.size w w' := by
  have b0 : (bits .and .i64 3 1 == 0) = false := by decide +kernel
  have b1 : (bits .and .i64 0 1 == 0) = true := by decide +kernel
  have i0 := idx0
  have i1 := idx1
  go_enter Tryd.func12, Tryd.ntmps12
  go_wp2_with fail
  refine wp_loop_rounds 6 ?_
  rw [rounds_succ]
  go_wp2_with fail
  refine (pcheck_any 2 (by omega) 3 (by decide) _).mono ?_
  rintro e w' ⟨rfl, rfl⟩
  go_wp2_with fail
  rw [rounds_succ]
  go_wp2_with fail
  refine (pcheck_any 2 (by omega) 1 (by decide) _).mono ?_
  rintro e w' ⟨rfl, rfl⟩
  go_wp2_with fail
  go_ret
  exact ⟨rfl, (Below.refl _ _).alloc (Nat.le_refl _) _⟩

set_option maxHeartbeats 1000000 in
theorem parse_B (w : World) : Calls Tryd.prog 29 #[.string { data := #[48, 49, 32, 48] }] w fun e w' => e = .returned (.tuple #[.agg #[.int .i64 0, .int .i64 0, .int .i64 0, .int .i64 0, .int .i64 0, .int .i64 0], .int .i64 4]) ∧ Below w.heap.size w w' := by
  go_enter Tryd.func29, Tryd.ntmps29
  go_wp2_with fail
  refine (split_B _).mono ?_
  rintro e w1 ⟨rfl, rfl⟩
  go_wp2_with fail
  refine (rowsB2 59 _ (fun p => ((kBad p : Nat) : Int)) _ (fun args w => by kernel_rfl) ?_).mono ?_
  · intro p W hp hW
    have c0 : W.cell? ⟨w.heap.size + 1 + 1, 0, none⟩ = some (.slice (some ⟨w.heap.size + 1, 0, none⟩) 2 2) := by
      rw [hW.cell (p := ⟨w.heap.size + 1 + 1, 0, none⟩) (by simp)]
      exact Joins.cell_alloc_mark_at _ _ _ (0, 0) _ 0 (by simp)
    have c1 : ∀ i, W.cell? ⟨w.heap.size + 1, i, none⟩ = (#[.string { data := #[48, 49] }, .string { data := #[48] }] : Array Value)[i]? := fun i => by
      rw [hW.cell (p := ⟨w.heap.size + 1, i, none⟩) (by simp)]
      refine (World.cell?_alloc_lt _ _ _ (by simp)).trans (Joins.cell_alloc_mark_at _ _ _ (0, 0) _ i (by simp))
    obtain rfl | rfl : p = 0 ∨ p = 1 := by omega
    · exact prow_B0 W _ _ c0 (c1 0)
    · exact prow_B1 W _ _ c0 (c1 1)
  rintro e w1 ⟨rfl, hb1⟩
  rw [show ((kBad 0 : Nat) : Int) = 3 from rfl, show ((kBad 1 : Nat) : Int) = 1 from rfl]
  obtain ⟨V0, hV0⟩ : ∃ V, (((w.alloc (.cells #[.int .i64 0, .int .i64 0, .int .i64 0, .int .i64 0, .int .i64 0, .int .i64 0] 24)).alloc (.cells #[.string { data := #[48, 49] }, .string { data := #[48] }] 9)).alloc (.cells #[.slice (some ⟨w.heap.size + 1, 0, none⟩) 2 2] 80)) = V := ⟨_, rfl⟩
  rw [hV0] at hb1
  have P0 : Box V0 w.heap.size #[.int .i64 0, .int .i64 0, .int .i64 0, .int .i64 0, .int .i64 0, .int .i64 0] 24 := by rw [← hV0]; exact ((Box.new w _ _).alloc _).alloc _
  have A0 : Below w.heap.size w V0 := by rw [← hV0]; exact (((Below.refl w.heap.size w).alloc (Nat.le_refl _) _).alloc (by simp) _).alloc (by simp; omega) _
  clear hV0
  have P1 := P0.below hb1 P0.lt
  have A1 := A0.trans (Joins.below_le hb1 A0.size)
  clear P0 A0 hb1
  obtain ⟨⟨q0, q1, q2, q3, q4, q5⟩, f0, f1, f2, f3, f4, f5⟩ := P1.six
  go_wp2_with fail
  refine (check_bad _).mono ?_
  rintro e w2 ⟨rfl, hb2⟩
  have P1' := P1.alloc (.cells #[.int .i64 2, .int .i64 3, .int .i64 1, .int .i64 0, .int .i64 0, .int .i64 0] 24)
  have A1' := A1.alloc A1.size (.cells #[.int .i64 2, .int .i64 3, .int .i64 1, .int .i64 0, .int .i64 0, .int .i64 0] 24)
  have P2 := P1'.below hb2 P1'.lt
  have A2 := A1'.trans (Joins.below_le hb2 A1'.size)
  clear P1 A1 P1' A1' hb2 q0 q1 q2 q3 q4 q5 f0 f1 f2 f3 f4 f5
  obtain ⟨⟨q0, q1, q2, q3, q4, q5⟩, f0, f1, f2, f3, f4, f5⟩ := P2.six
  go_wp2_with fail
  refine bodyPost_ret (v := .tuple #[.agg #[.int .i64 0, .int .i64 0, .int .i64 0, .int .i64 0, .int .i64 0, .int .i64 0], .int .i64 4]) (by simp [results, Tryd.results29, go_sem, q0, q1, q2, q3, q4, q5, f0, f1, f2, f3, f4, f5]) rfl ⟨rfl, ?_⟩
  repeat' (first | (with_reducible exact A2) | (with_reducible refine Below.setCell ?_ ?_ _) | go_size)
end Go.Proofs.YtacnhklhimogkaaDoor
