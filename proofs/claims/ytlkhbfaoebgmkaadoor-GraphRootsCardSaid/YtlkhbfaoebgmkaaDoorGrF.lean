/- graph.Inside on well-formed graphs of the same number of processes. -/
import Derived.Test.YtlkhbfaoebgmkaaDoorGrB
import Derived.Test.YtlkhbfaoebgmkaaDoorGrA
import Derived.Test.YtlkhbfaoebgmkaaDoorGrC
import Derived.Test.YtlkhbfaoebgmkaaDoorGrD
import Derived.Test.YtlkhbfaoebgmkaaDoorGrE
import Derived.Test.YtlkhbfaoebgmkaaDoorT
import Derived.Deep.RegionWith
import Derived.Test.YtlkhbfaoebgmkaaDoorGrM
import Derived.WalkKit
import Derived.WalkSpells
import Derived.WalkLawsBesides
import Derived.Handy
import Derived.Deep.QuietTactic
import Derived.BigQuiet
import Derived.Outline
import Derived.Laws.BitsAllLaws
import Derived.IntWalk
import Derived.Lib.SmallJoins
import Derived.Lib.Hide
namespace Go.Proofs.YtlkhbfaoebgmkaaDoor
set_option linter.unusedVariables false
set_option linter.unusedSimpArgs false
open Go.RowKit




set_option maxHeartbeats 400000 in
theorem inside1_any (p : Nat) (hp : p < 5) (A B : Nat) (x y : Nat) (w : World)
    (hx : w.cell? ⟨A, 1 + p, none⟩ = some (.int .i64 (x : Int))) (hy : w.cell? ⟨B, 1 + p, none⟩ = some (.int .i64 (y : Int))) :
    Calls Tryd.prog 48 #[.int .i64 (p : Int), .pointer (some ⟨A, 0, none⟩), .pointer (some ⟨B, 0, none⟩)] w
      fun e w' => e = .returned (.int .i64 (bits .or .i64 (x : Int) (y : Int))) ∧ ∃ n, w' = w.drewN n := by
  have h1 : (0 : Int) ≤ (p : Int) := by omega
  have h2 : (p : Int) < 5 := by omega
  go_enter Tryd.func48, Tryd.ntmps48
  go_wp2
  go_quiet (fail)
  go_wp2
  go_ret
  exact ⟨rfl, _, rfl⟩


set_option maxHeartbeats 400000 in
theorem inside_ok (n : Nat) (a b : Nat → Nat) (ha : WF n a) (hb : WF n b) (w : World) :
    Calls Tryd.prog 17 #[gv n a, gv n b] w fun e w' => e = .returned (.tuple #[.bool (geq n n (a 0 ||| b 0) (a 1 ||| b 1) (a 2 ||| b 2) (a 3 ||| b 3) (a 4 ||| b 4) (b 0) (b 1) (b 2) (b 3) (b 4)), .int .i64 0]) ∧ Below w.heap.size w w' := by
  have Ha := Lib.hid ha
  have Hb := Lib.hid hb
  have hn1 : 1 ≤ n := ha.1.1
  have hn5 : n ≤ 5 := ha.1.2
  have heql := run_eql_g
  clear ha hb
  go_enter Tryd.func17, Tryd.ntmps17
  go_wp2_with fail
  refine (pair_ok n a b Ha.out Hb.out _).mono ?_
  rintro e w1 ⟨rfl, hb1⟩
  obtain ⟨hc, hf⟩ := bcell hb1
  have hz : w.heap.size + 1 < w1.heap.size := by have := hb1.size; simp at this; omega
  have hz0 : w.heap.size < w1.heap.size := by omega
  have hB1 := (((Below.refl w.heap.size w).alloc (Nat.le_refl _) (.cells #[.int .i64 (n : Int), .int .i64 (a 0 : Int), .int .i64 (a 1 : Int), .int .i64 (a 2 : Int), .int .i64 (a 3 : Int), .int .i64 (a 4 : Int)] 24)).alloc (by simp) (.cells #[.int .i64 (n : Int), .int .i64 (b 0 : Int), .int .i64 (b 1 : Int), .int .i64 (b 2 : Int), .int .i64 (b 3 : Int), .int .i64 (b 4 : Int)] 24)).trans (Joins.below_le hb1 (by simp; omega))
  have hrow : ∀ W : World, Below w1.heap.size w1 W → Calls Tryd.prog 38 #[.int .i64 (n : Int), .func (.func 48) #[] #[.pointer (some ⟨w.heap.size, 0, none⟩), .pointer (some ⟨w.heap.size + 1, 0, none⟩)]] W
      fun e w' => e = .returned (gv n (fun p => a p ||| b p)) ∧ Below W.heap.size W w' := by
    intro W0 hW0
    refine (rows_any n ⟨hn1, hn5⟩ 48 _ (fun p => ((a p ||| b p : Nat) : Int)) _ (fun args w => by kernel_rfl) ?_).mono ?_
    · intro p W hp hW
      have hx : W.cell? ⟨w.heap.size, 1 + p, none⟩ = some (.int .i64 (a p : Int)) := cell_row (n := n) (fun i hi => by
        rw [hW.cell (p := ⟨w.heap.size, i, none⟩) (Nat.lt_of_lt_of_le hz0 hW0.size), hW0.cell (p := ⟨w.heap.size, i, none⟩) hz0, hc _ _ (by simp; omega)]
        exact box_cell1' w _ _ _ _ i) (by omega)
      have hy : W.cell? ⟨w.heap.size + 1, 1 + p, none⟩ = some (.int .i64 (b p : Int)) := cell_row (n := n) (fun i hi => by
        rw [hW.cell (p := ⟨w.heap.size + 1, i, none⟩) (Nat.lt_of_lt_of_le hz hW0.size), hW0.cell (p := ⟨w.heap.size + 1, i, none⟩) hz, hc _ _ (by simp)]
        exact box_cell2' w _ _ _ _ i) (by omega)
      refine (inside1_any p (by omega) _ _ _ _ W hx hy).mono ?_
      rintro e W' ⟨rfl, hn⟩
      exact ⟨by rw [i64_or_nat _ _ (row_small Ha.out hp) (row_small Hb.out hp)], hn⟩
    · rintro e w2 ⟨rfl, hb2⟩
      rw [pad_or Ha.out Hb.out (by omega), pad_or Ha.out Hb.out (by omega), pad_or Ha.out Hb.out (by omega), pad_or Ha.out Hb.out (by omega), pad_or Ha.out Hb.out (by omega)]
      exact ⟨rfl, hb2⟩
  have Hrow := Lib.hid hrow
  clear hrow
  go_wp2_with fail
  have y0 : w1.cell? ⟨w.heap.size + 1, 0, none⟩ = some (.int .i64 (n : Int)) := (hc _ _ (by simp)).trans (box_cell2' w _ _ _ _ 0)
  have y1 : w1.cell? ⟨w.heap.size + 1, 1, none⟩ = some (.int .i64 (b 0 : Int)) := (hc _ _ (by simp)).trans (box_cell2' w _ _ _ _ 1)
  have y2 : w1.cell? ⟨w.heap.size + 1, 2, none⟩ = some (.int .i64 (b 1 : Int)) := (hc _ _ (by simp)).trans (box_cell2' w _ _ _ _ 2)
  have y3 : w1.cell? ⟨w.heap.size + 1, 3, none⟩ = some (.int .i64 (b 2 : Int)) := (hc _ _ (by simp)).trans (box_cell2' w _ _ _ _ 3)
  have y4 : w1.cell? ⟨w.heap.size + 1, 4, none⟩ = some (.int .i64 (b 3 : Int)) := (hc _ _ (by simp)).trans (box_cell2' w _ _ _ _ 4)
  have y5 : w1.cell? ⟨w.heap.size + 1, 5, none⟩ = some (.int .i64 (b 4 : Int)) := (hc _ _ (by simp)).trans (box_cell2' w _ _ _ _ 5)
  go_region_with (go_at_call 38; refine (Hrow.out _ ?_).mono ?_; first | exact Below.refl _ _ | exact (Below.refl _ _).drew; rintro e w2 ⟨rfl, hb2⟩; have z0 := (hb2.cell (p := ⟨w.heap.size + 1, 0, none⟩) (by simpa using hz)).trans y0; have z1 := (hb2.cell (p := ⟨w.heap.size + 1, 1, none⟩) (by simpa using hz)).trans y1; have z2 := (hb2.cell (p := ⟨w.heap.size + 1, 2, none⟩) (by simpa using hz)).trans y2; have z3 := (hb2.cell (p := ⟨w.heap.size + 1, 3, none⟩) (by simpa using hz)).trans y3; have z4 := (hb2.cell (p := ⟨w.heap.size + 1, 4, none⟩) (by simpa using hz)).trans y4; have z5 := (hb2.cell (p := ⟨w.heap.size + 1, 5, none⟩) (by simpa using hz)).trans y5)
  all_goals
    go_wp2
    go_ret2
    refine ⟨rfl, ?_⟩
    first
      | exact hB1.trans (Joins.below_le hb2 (by omega))
      | exact hB1.drew.trans (Joins.below_le hb2 (by simp; omega))
end Go.Proofs.YtlkhbfaoebgmkaaDoor
