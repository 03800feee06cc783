/- graph.rows for three processes, where the function that it is given may make memory. -/
import Derived.Test.YtacnhklhimogkaaDoorGrB
import Derived.Test.YtacnhklhimogkaaDoorGrA
import Derived.Test.YtacnhklhimogkaaDoorGrD
import Derived.Test.YtacnhklhimogkaaDoorT
import Derived.Test.YtacnhklhimogkaaDoorGrE
import Derived.Test.YtacnhklhimogkaaDoorGrC
import Derived.Test.YtacnhklhimogkaaDoorGrM
import Derived.WalkKit
import Derived.WalkSpells
import Derived.WalkLawsBesides
import Derived.Handy
import Derived.Deep.QuietTactic
import Derived.BigQuiet
import Derived.Outline
import Derived.Laws.BitsAllLaws
import Derived.IntWalk
import Derived.Lib.SmallJoins
import Derived.Lib.Hide
namespace Go.Proofs.YtacnhklhimogkaaDoor
set_option linter.unusedVariables false
set_option linter.unusedSimpArgs false
open Go.RowKit




set_option maxHeartbeats 1000000 in
theorem rowsB1 (K : Nat) (lb : Array Value) (f : Nat → Int) (w : World)
    (hK : ∀ args w, (callFunc K args).run Tryd.prog w = .ok (.enter K args) w)
    (hf : ∀ (p : Nat) W, p < 1 → Below w.heap.size w W → Calls Tryd.prog K (#[.int .i64 (p : Int)] ++ lb) W fun e W' => e = .returned (.int .i64 (f p)) ∧ Below W.heap.size W W') :
    Calls Tryd.prog 38 #[.int .i64 1, .func (.func K) #[] lb] w
      fun e w' => e = .returned (.agg #[.int .i64 1, .int .i64 (f 0), .int .i64 0, .int .i64 0, .int .i64 0, .int .i64 0]) ∧ Below w.heap.size w w' := by
  have Hf := Lib.hid hf
  clear hf
  go_enter Tryd.func38, Tryd.ntmps38
  go_wp2_with fail
  obtain ⟨V, hV⟩ : ∃ V, (w.alloc (.cells #[.int .i64 0, .int .i64 0, .int .i64 0, .int .i64 0, .int .i64 0, .int .i64 0] 24)).alloc (.cells #[.int .i64 1, .int .i64 0, .int .i64 0, .int .i64 0, .int .i64 0, .int .i64 0] 24) = V := ⟨_, rfl⟩
  rw [hV]
  have B0 : Below w.heap.size w V := by rw [← hV]; exact ((Below.refl _ _).alloc (Nat.le_refl _) _).alloc (by simp) _
  have R0 : V.heap[w.heap.size + 1]? = some (.cells #[.int .i64 1, .int .i64 0, .int .i64 0, .int .i64 0, .int .i64 0, .int .i64 0] 24 (0, 0)) := by
    rw [← hV]
    show ((w.heap.push _).push _)[w.heap.size + 1]? = _
    rw [Array.getElem?_push, if_pos (by simp)]
  have Z0 : V.heap[w.heap.size]? = some (.cells #[.int .i64 0, .int .i64 0, .int .i64 0, .int .i64 0, .int .i64 0, .int .i64 0] 24 (0, 0)) := by
    rw [← hV]
    show ((w.heap.push _).push _)[w.heap.size]? = _
    simp [Array.getElem?_push]
  clear hV
  refine wp_loop_rounds 2 ?_
  rw [rounds_succ]
  go_wp2_with fail
  refine (Hf.out 0 _ (by omega) B0).mono ?_
  rintro e V0 ⟨rfl, hb0⟩
  have r0 := (hb0.block _ (Array.getElem?_eq_some_iff.1 R0).1).trans R0
  have z0 := (hb0.block _ (Array.getElem?_eq_some_iff.1 Z0).1).trans Z0
  have b0 := B0.trans (Joins.below_le hb0 B0.size)
  have c0 : V0.cell? ⟨w.heap.size + 1, 1, none⟩ = some (.int .i64 0) := Joins.cell_of_block r0 1
  have d0 : V0.frozen? ⟨w.heap.size + 1, 1, none⟩ = false := Joins.unfrozen_of_block r0 1
  have R1 := Joins.block_setCell (i := 1) r0 (.int .i64 (f 0))
  simp only [List.setIfInBounds_toArray, List.set_cons_succ, List.set_cons_zero] at R1
  have Z1 := (Below.heap_setCell V0 ⟨w.heap.size + 1, 1, none⟩ (.int .i64 (f 0)) w.heap.size (by simp)).trans z0
  have B1 := b0.setCell (p := ⟨w.heap.size + 1, 1, none⟩) (by simp) (.int .i64 (f 0))
  have hR0 := Lib.hid R1
  have hZ0 := Lib.hid Z1
  have hB0 := Lib.hid B1
  clear r0 z0 b0 R1 Z1 B1 hb0
  go_wp2_with fail
  have R1 := hR0.out
  have Z1 := hZ0.out
  have B1 := hB0.out
  clear hR0 hZ0 hB0 c0 d0
  obtain ⟨U, hU⟩ : ∃ U, V0.setCell ⟨w.heap.size + 1, 1, none⟩ (.int .i64 (f 0)) = U := ⟨_, rfl⟩
  rw [hU] at R1 Z1 B1 ⊢
  have q : ∀ i, U.cell? ⟨w.heap.size + 1, i, none⟩ = (#[.int .i64 1, .int .i64 (f 0), .int .i64 0, .int .i64 0, .int .i64 0, .int .i64 0] : Array Value)[i]? := fun i => Joins.cell_of_block R1 i
  have z : ∀ i, U.cell? ⟨w.heap.size, i, none⟩ = (#[.int .i64 0, .int .i64 0, .int .i64 0, .int .i64 0, .int .i64 0, .int .i64 0] : Array Value)[i]? := fun i => Joins.cell_of_block Z1 i
  have zf : ∀ i, U.frozen? ⟨w.heap.size, i, none⟩ = false := fun i => Joins.unfrozen_of_block Z1 i
  have q0 := q 0
  have q1 := q 1
  have q2 := q 2
  have q3 := q 3
  have q4 := q 4
  have q5 := q 5
  have z0 := z 0
  have z1 := z 1
  have z2 := z 2
  have z3 := z 3
  have z4 := z 4
  have z5 := z 5
  have y0 := zf 0
  have y1 := zf 1
  have y2 := zf 2
  have y3 := zf 3
  have y4 := zf 4
  have y5 := zf 5
  simp at q0 q1 q2 q3 q4 q5 z0 z1 z2 z3 z4 z5
  clear q z zf R1 Z1
  rw [rounds_succ]
  go_wp2_with fail
  refine bodyPost_ret (v := .agg #[.int .i64 1, .int .i64 (f 0), .int .i64 0, .int .i64 0, .int .i64 0, .int .i64 0]) (by simp [results, Tryd.results38, go_sem, z0, z1, z2, z3, z4, z5]) rfl ⟨rfl, ?_⟩
  repeat' (first | (with_reducible exact B1) | (with_reducible refine Below.setCell ?_ ?_ _) | go_size)

set_option maxHeartbeats 1000000 in
theorem rowsB2 (K : Nat) (lb : Array Value) (f : Nat → Int) (w : World)
    (hK : ∀ args w, (callFunc K args).run Tryd.prog w = .ok (.enter K args) w)
    (hf : ∀ (p : Nat) W, p < 2 → Below w.heap.size w W → Calls Tryd.prog K (#[.int .i64 (p : Int)] ++ lb) W fun e W' => e = .returned (.int .i64 (f p)) ∧ Below W.heap.size W W') :
    Calls Tryd.prog 38 #[.int .i64 2, .func (.func K) #[] lb] w
      fun e w' => e = .returned (.agg #[.int .i64 2, .int .i64 (f 0), .int .i64 (f 1), .int .i64 0, .int .i64 0, .int .i64 0]) ∧ Below w.heap.size w w' := by
  have Hf := Lib.hid hf
  clear hf
  go_enter Tryd.func38, Tryd.ntmps38
  go_wp2_with fail
  obtain ⟨V, hV⟩ : ∃ V, (w.alloc (.cells #[.int .i64 0, .int .i64 0, .int .i64 0, .int .i64 0, .int .i64 0, .int .i64 0] 24)).alloc (.cells #[.int .i64 2, .int .i64 0, .int .i64 0, .int .i64 0, .int .i64 0, .int .i64 0] 24) = V := ⟨_, rfl⟩
  rw [hV]
  have B0 : Below w.heap.size w V := by rw [← hV]; exact ((Below.refl _ _).alloc (Nat.le_refl _) _).alloc (by simp) _
  have R0 : V.heap[w.heap.size + 1]? = some (.cells #[.int .i64 2, .int .i64 0, .int .i64 0, .int .i64 0, .int .i64 0, .int .i64 0] 24 (0, 0)) := by
    rw [← hV]
    show ((w.heap.push _).push _)[w.heap.size + 1]? = _
    rw [Array.getElem?_push, if_pos (by simp)]
  have Z0 : V.heap[w.heap.size]? = some (.cells #[.int .i64 0, .int .i64 0, .int .i64 0, .int .i64 0, .int .i64 0, .int .i64 0] 24 (0, 0)) := by
    rw [← hV]
    show ((w.heap.push _).push _)[w.heap.size]? = _
    simp [Array.getElem?_push]
  clear hV
  refine wp_loop_rounds 3 ?_
  rw [rounds_succ]
  go_wp2_with fail
  refine (Hf.out 0 _ (by omega) B0).mono ?_
  rintro e V0 ⟨rfl, hb0⟩
  have r0 := (hb0.block _ (Array.getElem?_eq_some_iff.1 R0).1).trans R0
  have z0 := (hb0.block _ (Array.getElem?_eq_some_iff.1 Z0).1).trans Z0
  have b0 := B0.trans (Joins.below_le hb0 B0.size)
  have c0 : V0.cell? ⟨w.heap.size + 1, 1, none⟩ = some (.int .i64 0) := Joins.cell_of_block r0 1
  have d0 : V0.frozen? ⟨w.heap.size + 1, 1, none⟩ = false := Joins.unfrozen_of_block r0 1
  have R1 := Joins.block_setCell (i := 1) r0 (.int .i64 (f 0))
  simp only [List.setIfInBounds_toArray, List.set_cons_succ, List.set_cons_zero] at R1
  have Z1 := (Below.heap_setCell V0 ⟨w.heap.size + 1, 1, none⟩ (.int .i64 (f 0)) w.heap.size (by simp)).trans z0
  have B1 := b0.setCell (p := ⟨w.heap.size + 1, 1, none⟩) (by simp) (.int .i64 (f 0))
  have hR0 := Lib.hid R1
  have hZ0 := Lib.hid Z1
  have hB0 := Lib.hid B1
  clear r0 z0 b0 R1 Z1 B1 hb0
  go_wp2_with fail
  have R1 := hR0.out
  have Z1 := hZ0.out
  have B1 := hB0.out
  clear hR0 hZ0 hB0 c0 d0
  rw [rounds_succ]
  go_wp2_with fail
  refine (Hf.out 1 _ (by omega) B1).mono ?_
  rintro e V1 ⟨rfl, hb1⟩
  have r1 := (hb1.block _ (Array.getElem?_eq_some_iff.1 R1).1).trans R1
  have z1 := (hb1.block _ (Array.getElem?_eq_some_iff.1 Z1).1).trans Z1
  have b1 := B1.trans (Joins.below_le hb1 B1.size)
  have c1 : V1.cell? ⟨w.heap.size + 1, 2, none⟩ = some (.int .i64 0) := Joins.cell_of_block r1 2
  have d1 : V1.frozen? ⟨w.heap.size + 1, 2, none⟩ = false := Joins.unfrozen_of_block r1 2
  have R2 := Joins.block_setCell (i := 2) r1 (.int .i64 (f 1))
  simp only [List.setIfInBounds_toArray, List.set_cons_succ, List.set_cons_zero] at R2
  have Z2 := (Below.heap_setCell V1 ⟨w.heap.size + 1, 2, none⟩ (.int .i64 (f 1)) w.heap.size (by simp)).trans z1
  have B2 := b1.setCell (p := ⟨w.heap.size + 1, 2, none⟩) (by simp) (.int .i64 (f 1))
  have hR1 := Lib.hid R2
  have hZ1 := Lib.hid Z2
  have hB1 := Lib.hid B2
  clear r1 z1 b1 R2 Z2 B2 hb1
  go_wp2_with fail
  have R2 := hR1.out
  have Z2 := hZ1.out
  have B2 := hB1.out
  clear hR1 hZ1 hB1 c1 d1
  obtain ⟨U, hU⟩ : ∃ U, V1.setCell ⟨w.heap.size + 1, 2, none⟩ (.int .i64 (f 1)) = U := ⟨_, rfl⟩
  rw [hU] at R2 Z2 B2 ⊢
  have q : ∀ i, U.cell? ⟨w.heap.size + 1, i, none⟩ = (#[.int .i64 2, .int .i64 (f 0), .int .i64 (f 1), .int .i64 0, .int .i64 0, .int .i64 0] : Array Value)[i]? := fun i => Joins.cell_of_block R2 i
  have z : ∀ i, U.cell? ⟨w.heap.size, i, none⟩ = (#[.int .i64 0, .int .i64 0, .int .i64 0, .int .i64 0, .int .i64 0, .int .i64 0] : Array Value)[i]? := fun i => Joins.cell_of_block Z2 i
  have zf : ∀ i, U.frozen? ⟨w.heap.size, i, none⟩ = false := fun i => Joins.unfrozen_of_block Z2 i
  have q0 := q 0
  have q1 := q 1
  have q2 := q 2
  have q3 := q 3
  have q4 := q 4
  have q5 := q 5
  have z0 := z 0
  have z1 := z 1
  have z2 := z 2
  have z3 := z 3
  have z4 := z 4
  have z5 := z 5
  have y0 := zf 0
  have y1 := zf 1
  have y2 := zf 2
  have y3 := zf 3
  have y4 := zf 4
  have y5 := zf 5
  simp at q0 q1 q2 q3 q4 q5 z0 z1 z2 z3 z4 z5
  clear q z zf R2 Z2
  rw [rounds_succ]
  go_wp2_with fail
  refine bodyPost_ret (v := .agg #[.int .i64 2, .int .i64 (f 0), .int .i64 (f 1), .int .i64 0, .int .i64 0, .int .i64 0]) (by simp [results, Tryd.results38, go_sem, z0, z1, z2, z3, z4, z5]) rfl ⟨rfl, ?_⟩
  repeat' (first | (with_reducible exact B2) | (with_reducible refine Below.setCell ?_ ?_ _) | go_size)

set_option maxHeartbeats 1000000 in
theorem rowsB3 (K : Nat) (lb : Array Value) (f : Nat → Int) (w : World)
    (hK : ∀ args w, (callFunc K args).run Tryd.prog w = .ok (.enter K args) w)
    (hf : ∀ (p : Nat) W, p < 3 → Below w.heap.size w W → Calls Tryd.prog K (#[.int .i64 (p : Int)] ++ lb) W fun e W' => e = .returned (.int .i64 (f p)) ∧ Below W.heap.size W W') :
    Calls Tryd.prog 38 #[.int .i64 3, .func (.func K) #[] lb] w
      fun e w' => e = .returned (.agg #[.int .i64 3, .int .i64 (f 0), .int .i64 (f 1), .int .i64 (f 2), .int .i64 0, .int .i64 0]) ∧ Below w.heap.size w w' := by
  have Hf := Lib.hid hf
  clear hf
  go_enter Tryd.func38, Tryd.ntmps38
  go_wp2_with fail
  obtain ⟨V, hV⟩ : ∃ V, (w.alloc (.cells #[.int .i64 0, .int .i64 0, .int .i64 0, .int .i64 0, .int .i64 0, .int .i64 0] 24)).alloc (.cells #[.int .i64 3, .int .i64 0, .int .i64 0, .int .i64 0, .int .i64 0, .int .i64 0] 24) = V := ⟨_, rfl⟩
  rw [hV]
  have B0 : Below w.heap.size w V := by rw [← hV]; exact ((Below.refl _ _).alloc (Nat.le_refl _) _).alloc (by simp) _
  have R0 : V.heap[w.heap.size + 1]? = some (.cells #[.int .i64 3, .int .i64 0, .int .i64 0, .int .i64 0, .int .i64 0, .int .i64 0] 24 (0, 0)) := by
    rw [← hV]
    show ((w.heap.push _).push _)[w.heap.size + 1]? = _
    rw [Array.getElem?_push, if_pos (by simp)]
  have Z0 : V.heap[w.heap.size]? = some (.cells #[.int .i64 0, .int .i64 0, .int .i64 0, .int .i64 0, .int .i64 0, .int .i64 0] 24 (0, 0)) := by
    rw [← hV]
    show ((w.heap.push _).push _)[w.heap.size]? = _
    simp [Array.getElem?_push]
  clear hV
  refine wp_loop_rounds 4 ?_
  rw [rounds_succ]
  go_wp2_with fail
  refine (Hf.out 0 _ (by omega) B0).mono ?_
  rintro e V0 ⟨rfl, hb0⟩
  have r0 := (hb0.block _ (Array.getElem?_eq_some_iff.1 R0).1).trans R0
  have z0 := (hb0.block _ (Array.getElem?_eq_some_iff.1 Z0).1).trans Z0
  have b0 := B0.trans (Joins.below_le hb0 B0.size)
  have c0 : V0.cell? ⟨w.heap.size + 1, 1, none⟩ = some (.int .i64 0) := Joins.cell_of_block r0 1
  have d0 : V0.frozen? ⟨w.heap.size + 1, 1, none⟩ = false := Joins.unfrozen_of_block r0 1
  have R1 := Joins.block_setCell (i := 1) r0 (.int .i64 (f 0))
  simp only [List.setIfInBounds_toArray, List.set_cons_succ, List.set_cons_zero] at R1
  have Z1 := (Below.heap_setCell V0 ⟨w.heap.size + 1, 1, none⟩ (.int .i64 (f 0)) w.heap.size (by simp)).trans z0
  have B1 := b0.setCell (p := ⟨w.heap.size + 1, 1, none⟩) (by simp) (.int .i64 (f 0))
  have hR0 := Lib.hid R1
  have hZ0 := Lib.hid Z1
  have hB0 := Lib.hid B1
  clear r0 z0 b0 R1 Z1 B1 hb0
  go_wp2_with fail
  have R1 := hR0.out
  have Z1 := hZ0.out
  have B1 := hB0.out
  clear hR0 hZ0 hB0 c0 d0
  rw [rounds_succ]
  go_wp2_with fail
  refine (Hf.out 1 _ (by omega) B1).mono ?_
  rintro e V1 ⟨rfl, hb1⟩
  have r1 := (hb1.block _ (Array.getElem?_eq_some_iff.1 R1).1).trans R1
  have z1 := (hb1.block _ (Array.getElem?_eq_some_iff.1 Z1).1).trans Z1
  have b1 := B1.trans (Joins.below_le hb1 B1.size)
  have c1 : V1.cell? ⟨w.heap.size + 1, 2, none⟩ = some (.int .i64 0) := Joins.cell_of_block r1 2
  have d1 : V1.frozen? ⟨w.heap.size + 1, 2, none⟩ = false := Joins.unfrozen_of_block r1 2
  have R2 := Joins.block_setCell (i := 2) r1 (.int .i64 (f 1))
  simp only [List.setIfInBounds_toArray, List.set_cons_succ, List.set_cons_zero] at R2
  have Z2 := (Below.heap_setCell V1 ⟨w.heap.size + 1, 2, none⟩ (.int .i64 (f 1)) w.heap.size (by simp)).trans z1
  have B2 := b1.setCell (p := ⟨w.heap.size + 1, 2, none⟩) (by simp) (.int .i64 (f 1))
  have hR1 := Lib.hid R2
  have hZ1 := Lib.hid Z2
  have hB1 := Lib.hid B2
  clear r1 z1 b1 R2 Z2 B2 hb1
  go_wp2_with fail
  have R2 := hR1.out
  have Z2 := hZ1.out
  have B2 := hB1.out
  clear hR1 hZ1 hB1 c1 d1
  rw [rounds_succ]
  go_wp2_with fail
  refine (Hf.out 2 _ (by omega) B2).mono ?_
  rintro e V2 ⟨rfl, hb2⟩
  have r2 := (hb2.block _ (Array.getElem?_eq_some_iff.1 R2).1).trans R2
  have z2 := (hb2.block _ (Array.getElem?_eq_some_iff.1 Z2).1).trans Z2
  have b2 := B2.trans (Joins.below_le hb2 B2.size)
  have c2 : V2.cell? ⟨w.heap.size + 1, 3, none⟩ = some (.int .i64 0) := Joins.cell_of_block r2 3
  have d2 : V2.frozen? ⟨w.heap.size + 1, 3, none⟩ = false := Joins.unfrozen_of_block r2 3
  have R3 := Joins.block_setCell (i := 3) r2 (.int .i64 (f 2))
  simp only [List.setIfInBounds_toArray, List.set_cons_succ, List.set_cons_zero] at R3
  have Z3 := (Below.heap_setCell V2 ⟨w.heap.size + 1, 3, none⟩ (.int .i64 (f 2)) w.heap.size (by simp)).trans z2
  have B3 := b2.setCell (p := ⟨w.heap.size + 1, 3, none⟩) (by simp) (.int .i64 (f 2))
  have hR2 := Lib.hid R3
  have hZ2 := Lib.hid Z3
  have hB2 := Lib.hid B3
  clear r2 z2 b2 R3 Z3 B3 hb2
  go_wp2_with fail
  have R3 := hR2.out
  have Z3 := hZ2.out
  have B3 := hB2.out
  clear hR2 hZ2 hB2 c2 d2
  obtain ⟨U, hU⟩ : ∃ U, V2.setCell ⟨w.heap.size + 1, 3, none⟩ (.int .i64 (f 2)) = U := ⟨_, rfl⟩
  rw [hU] at R3 Z3 B3 ⊢
  have q : ∀ i, U.cell? ⟨w.heap.size + 1, i, none⟩ = (#[.int .i64 3, .int .i64 (f 0), .int .i64 (f 1), .int .i64 (f 2), .int .i64 0, .int .i64 0] : Array Value)[i]? := fun i => Joins.cell_of_block R3 i
  have z : ∀ i, U.cell? ⟨w.heap.size, i, none⟩ = (#[.int .i64 0, .int .i64 0, .int .i64 0, .int .i64 0, .int .i64 0, .int .i64 0] : Array Value)[i]? := fun i => Joins.cell_of_block Z3 i
  have zf : ∀ i, U.frozen? ⟨w.heap.size, i, none⟩ = false := fun i => Joins.unfrozen_of_block Z3 i
  have q0 := q 0
  have q1 := q 1
  have q2 := q 2
  have q3 := q 3
  have q4 := q 4
  have q5 := q 5
  have z0 := z 0
  have z1 := z 1
  have z2 := z 2
  have z3 := z 3
  have z4 := z 4
  have z5 := z 5
  have y0 := zf 0
  have y1 := zf 1
  have y2 := zf 2
  have y3 := zf 3
  have y4 := zf 4
  have y5 := zf 5
  simp at q0 q1 q2 q3 q4 q5 z0 z1 z2 z3 z4 z5
  clear q z zf R3 Z3
  rw [rounds_succ]
  go_wp2_with fail
  refine bodyPost_ret (v := .agg #[.int .i64 3, .int .i64 (f 0), .int .i64 (f 1), .int .i64 (f 2), .int .i64 0, .int .i64 0]) (by simp [results, Tryd.results38, go_sem, z0, z1, z2, z3, z4, z5]) rfl ⟨rfl, ?_⟩
  repeat' (first | (with_reducible exact B3) | (with_reducible refine Below.setCell ?_ ?_ _) | go_size)

set_option maxHeartbeats 1000000 in
theorem rowsB4 (K : Nat) (lb : Array Value) (f : Nat → Int) (w : World)
    (hK : ∀ args w, (callFunc K args).run Tryd.prog w = .ok (.enter K args) w)
    (hf : ∀ (p : Nat) W, p < 4 → Below w.heap.size w W → Calls Tryd.prog K (#[.int .i64 (p : Int)] ++ lb) W fun e W' => e = .returned (.int .i64 (f p)) ∧ Below W.heap.size W W') :
    Calls Tryd.prog 38 #[.int .i64 4, .func (.func K) #[] lb] w
      fun e w' => e = .returned (.agg #[.int .i64 4, .int .i64 (f 0), .int .i64 (f 1), .int .i64 (f 2), .int .i64 (f 3), .int .i64 0]) ∧ Below w.heap.size w w' := by
  have Hf := Lib.hid hf
  clear hf
  go_enter Tryd.func38, Tryd.ntmps38
  go_wp2_with fail
  obtain ⟨V, hV⟩ : ∃ V, (w.alloc (.cells #[.int .i64 0, .int .i64 0, .int .i64 0, .int .i64 0, .int .i64 0, .int .i64 0] 24)).alloc (.cells #[.int .i64 4, .int .i64 0, .int .i64 0, .int .i64 0, .int .i64 0, .int .i64 0] 24) = V := ⟨_, rfl⟩
  rw [hV]
  have B0 : Below w.heap.size w V := by rw [← hV]; exact ((Below.refl _ _).alloc (Nat.le_refl _) _).alloc (by simp) _
  have R0 : V.heap[w.heap.size + 1]? = some (.cells #[.int .i64 4, .int .i64 0, .int .i64 0, .int .i64 0, .int .i64 0, .int .i64 0] 24 (0, 0)) := by
    rw [← hV]
    show ((w.heap.push _).push _)[w.heap.size + 1]? = _
    rw [Array.getElem?_push, if_pos (by simp)]
  have Z0 : V.heap[w.heap.size]? = some (.cells #[.int .i64 0, .int .i64 0, .int .i64 0, .int .i64 0, .int .i64 0, .int .i64 0] 24 (0, 0)) := by
    rw [← hV]
    show ((w.heap.push _).push _)[w.heap.size]? = _
    simp [Array.getElem?_push]
  clear hV
  refine wp_loop_rounds 5 ?_
  rw [rounds_succ]
  go_wp2_with fail
  refine (Hf.out 0 _ (by omega) B0).mono ?_
  rintro e V0 ⟨rfl, hb0⟩
  have r0 := (hb0.block _ (Array.getElem?_eq_some_iff.1 R0).1).trans R0
  have z0 := (hb0.block _ (Array.getElem?_eq_some_iff.1 Z0).1).trans Z0
  have b0 := B0.trans (Joins.below_le hb0 B0.size)
  have c0 : V0.cell? ⟨w.heap.size + 1, 1, none⟩ = some (.int .i64 0) := Joins.cell_of_block r0 1
  have d0 : V0.frozen? ⟨w.heap.size + 1, 1, none⟩ = false := Joins.unfrozen_of_block r0 1
  have R1 := Joins.block_setCell (i := 1) r0 (.int .i64 (f 0))
  simp only [List.setIfInBounds_toArray, List.set_cons_succ, List.set_cons_zero] at R1
  have Z1 := (Below.heap_setCell V0 ⟨w.heap.size + 1, 1, none⟩ (.int .i64 (f 0)) w.heap.size (by simp)).trans z0
  have B1 := b0.setCell (p := ⟨w.heap.size + 1, 1, none⟩) (by simp) (.int .i64 (f 0))
  have hR0 := Lib.hid R1
  have hZ0 := Lib.hid Z1
  have hB0 := Lib.hid B1
  clear r0 z0 b0 R1 Z1 B1 hb0
  go_wp2_with fail
  have R1 := hR0.out
  have Z1 := hZ0.out
  have B1 := hB0.out
  clear hR0 hZ0 hB0 c0 d0
  rw [rounds_succ]
  go_wp2_with fail
  refine (Hf.out 1 _ (by omega) B1).mono ?_
  rintro e V1 ⟨rfl, hb1⟩
  have r1 := (hb1.block _ (Array.getElem?_eq_some_iff.1 R1).1).trans R1
  have z1 := (hb1.block _ (Array.getElem?_eq_some_iff.1 Z1).1).trans Z1
  have b1 := B1.trans (Joins.below_le hb1 B1.size)
  have c1 : V1.cell? ⟨w.heap.size + 1, 2, none⟩ = some (.int .i64 0) := Joins.cell_of_block r1 2
  have d1 : V1.frozen? ⟨w.heap.size + 1, 2, none⟩ = false := Joins.unfrozen_of_block r1 2
  have R2 := Joins.block_setCell (i := 2) r1 (.int .i64 (f 1))
  simp only [List.setIfInBounds_toArray, List.set_cons_succ, List.set_cons_zero] at R2
  have Z2 := (Below.heap_setCell V1 ⟨w.heap.size + 1, 2, none⟩ (.int .i64 (f 1)) w.heap.size (by simp)).trans z1
  have B2 := b1.setCell (p := ⟨w.heap.size + 1, 2, none⟩) (by simp) (.int .i64 (f 1))
  have hR1 := Lib.hid R2
  have hZ1 := Lib.hid Z2
  have hB1 := Lib.hid B2
  clear r1 z1 b1 R2 Z2 B2 hb1
  go_wp2_with fail
  have R2 := hR1.out
  have Z2 := hZ1.out
  have B2 := hB1.out
  clear hR1 hZ1 hB1 c1 d1
  rw [rounds_succ]
  go_wp2_with fail
  refine (Hf.out 2 _ (by omega) B2).mono ?_
  rintro e V2 ⟨rfl, hb2⟩
  have r2 := (hb2.block _ (Array.getElem?_eq_some_iff.1 R2).1).trans R2
  have z2 := (hb2.block _ (Array.getElem?_eq_some_iff.1 Z2).1).trans Z2
  have b2 := B2.trans (Joins.below_le hb2 B2.size)
  have c2 : V2.cell? ⟨w.heap.size + 1, 3, none⟩ = some (.int .i64 0) := Joins.cell_of_block r2 3
  have d2 : V2.frozen? ⟨w.heap.size + 1, 3, none⟩ = false := Joins.unfrozen_of_block r2 3
  have R3 := Joins.block_setCell (i := 3) r2 (.int .i64 (f 2))
  simp only [List.setIfInBounds_toArray, List.set_cons_succ, List.set_cons_zero] at R3
  have Z3 := (Below.heap_setCell V2 ⟨w.heap.size + 1, 3, none⟩ (.int .i64 (f 2)) w.heap.size (by simp)).trans z2
  have B3 := b2.setCell (p := ⟨w.heap.size + 1, 3, none⟩) (by simp) (.int .i64 (f 2))
  have hR2 := Lib.hid R3
  have hZ2 := Lib.hid Z3
  have hB2 := Lib.hid B3
  clear r2 z2 b2 R3 Z3 B3 hb2
  go_wp2_with fail
  have R3 := hR2.out
  have Z3 := hZ2.out
  have B3 := hB2.out
  clear hR2 hZ2 hB2 c2 d2
  rw [rounds_succ]
  go_wp2_with fail
  refine (Hf.out 3 _ (by omega) B3).mono ?_
  rintro e V3 ⟨rfl, hb3⟩
  have r3 := (hb3.block _ (Array.getElem?_eq_some_iff.1 R3).1).trans R3
  have z3 := (hb3.block _ (Array.getElem?_eq_some_iff.1 Z3).1).trans Z3
  have b3 := B3.trans (Joins.below_le hb3 B3.size)
  have c3 : V3.cell? ⟨w.heap.size + 1, 4, none⟩ = some (.int .i64 0) := Joins.cell_of_block r3 4
  have d3 : V3.frozen? ⟨w.heap.size + 1, 4, none⟩ = false := Joins.unfrozen_of_block r3 4
  have R4 := Joins.block_setCell (i := 4) r3 (.int .i64 (f 3))
  simp only [List.setIfInBounds_toArray, List.set_cons_succ, List.set_cons_zero] at R4
  have Z4 := (Below.heap_setCell V3 ⟨w.heap.size + 1, 4, none⟩ (.int .i64 (f 3)) w.heap.size (by simp)).trans z3
  have B4 := b3.setCell (p := ⟨w.heap.size + 1, 4, none⟩) (by simp) (.int .i64 (f 3))
  have hR3 := Lib.hid R4
  have hZ3 := Lib.hid Z4
  have hB3 := Lib.hid B4
  clear r3 z3 b3 R4 Z4 B4 hb3
  go_wp2_with fail
  have R4 := hR3.out
  have Z4 := hZ3.out
  have B4 := hB3.out
  clear hR3 hZ3 hB3 c3 d3
  obtain ⟨U, hU⟩ : ∃ U, V3.setCell ⟨w.heap.size + 1, 4, none⟩ (.int .i64 (f 3)) = U := ⟨_, rfl⟩
  rw [hU] at R4 Z4 B4 ⊢
  have q : ∀ i, U.cell? ⟨w.heap.size + 1, i, none⟩ = (#[.int .i64 4, .int .i64 (f 0), .int .i64 (f 1), .int .i64 (f 2), .int .i64 (f 3), .int .i64 0] : Array Value)[i]? := fun i => Joins.cell_of_block R4 i
  have z : ∀ i, U.cell? ⟨w.heap.size, i, none⟩ = (#[.int .i64 0, .int .i64 0, .int .i64 0, .int .i64 0, .int .i64 0, .int .i64 0] : Array Value)[i]? := fun i => Joins.cell_of_block Z4 i
  have zf : ∀ i, U.frozen? ⟨w.heap.size, i, none⟩ = false := fun i => Joins.unfrozen_of_block Z4 i
  have q0 := q 0
  have q1 := q 1
  have q2 := q 2
  have q3 := q 3
  have q4 := q 4
  have q5 := q 5
  have z0 := z 0
  have z1 := z 1
  have z2 := z 2
  have z3 := z 3
  have z4 := z 4
  have z5 := z 5
  have y0 := zf 0
  have y1 := zf 1
  have y2 := zf 2
  have y3 := zf 3
  have y4 := zf 4
  have y5 := zf 5
  simp at q0 q1 q2 q3 q4 q5 z0 z1 z2 z3 z4 z5
  clear q z zf R4 Z4
  rw [rounds_succ]
  go_wp2_with fail
  refine bodyPost_ret (v := .agg #[.int .i64 4, .int .i64 (f 0), .int .i64 (f 1), .int .i64 (f 2), .int .i64 (f 3), .int .i64 0]) (by simp [results, Tryd.results38, go_sem, z0, z1, z2, z3, z4, z5]) rfl ⟨rfl, ?_⟩
  repeat' (first | (with_reducible exact B4) | (with_reducible refine Below.setCell ?_ ?_ _) | go_size)

set_option maxHeartbeats 1000000 in
theorem rowsB5 (K : Nat) (lb : Array Value) (f : Nat → Int) (w : World)
    (hK : ∀ args w, (callFunc K args).run Tryd.prog w = .ok (.enter K args) w)
    (hf : ∀ (p : Nat) W, p < 5 → Below w.heap.size w W → Calls Tryd.prog K (#[.int .i64 (p : Int)] ++ lb) W fun e W' => e = .returned (.int .i64 (f p)) ∧ Below W.heap.size W W') :
    Calls Tryd.prog 38 #[.int .i64 5, .func (.func K) #[] lb] w
      fun e w' => e = .returned (.agg #[.int .i64 5, .int .i64 (f 0), .int .i64 (f 1), .int .i64 (f 2), .int .i64 (f 3), .int .i64 (f 4)]) ∧ Below w.heap.size w w' := by
  have Hf := Lib.hid hf
  clear hf
  go_enter Tryd.func38, Tryd.ntmps38
  go_wp2_with fail
  obtain ⟨V, hV⟩ : ∃ V, (w.alloc (.cells #[.int .i64 0, .int .i64 0, .int .i64 0, .int .i64 0, .int .i64 0, .int .i64 0] 24)).alloc (.cells #[.int .i64 5, .int .i64 0, .int .i64 0, .int .i64 0, .int .i64 0, .int .i64 0] 24) = V := ⟨_, rfl⟩
  rw [hV]
  have B0 : Below w.heap.size w V := by rw [← hV]; exact ((Below.refl _ _).alloc (Nat.le_refl _) _).alloc (by simp) _
  have R0 : V.heap[w.heap.size + 1]? = some (.cells #[.int .i64 5, .int .i64 0, .int .i64 0, .int .i64 0, .int .i64 0, .int .i64 0] 24 (0, 0)) := by
    rw [← hV]
    show ((w.heap.push _).push _)[w.heap.size + 1]? = _
    rw [Array.getElem?_push, if_pos (by simp)]
  have Z0 : V.heap[w.heap.size]? = some (.cells #[.int .i64 0, .int .i64 0, .int .i64 0, .int .i64 0, .int .i64 0, .int .i64 0] 24 (0, 0)) := by
    rw [← hV]
    show ((w.heap.push _).push _)[w.heap.size]? = _
    simp [Array.getElem?_push]
  clear hV
  refine wp_loop_rounds 6 ?_
  rw [rounds_succ]
  go_wp2_with fail
  refine (Hf.out 0 _ (by omega) B0).mono ?_
  rintro e V0 ⟨rfl, hb0⟩
  have r0 := (hb0.block _ (Array.getElem?_eq_some_iff.1 R0).1).trans R0
  have z0 := (hb0.block _ (Array.getElem?_eq_some_iff.1 Z0).1).trans Z0
  have b0 := B0.trans (Joins.below_le hb0 B0.size)
  have c0 : V0.cell? ⟨w.heap.size + 1, 1, none⟩ = some (.int .i64 0) := Joins.cell_of_block r0 1
  have d0 : V0.frozen? ⟨w.heap.size + 1, 1, none⟩ = false := Joins.unfrozen_of_block r0 1
  have R1 := Joins.block_setCell (i := 1) r0 (.int .i64 (f 0))
  simp only [List.setIfInBounds_toArray, List.set_cons_succ, List.set_cons_zero] at R1
  have Z1 := (Below.heap_setCell V0 ⟨w.heap.size + 1, 1, none⟩ (.int .i64 (f 0)) w.heap.size (by simp)).trans z0
  have B1 := b0.setCell (p := ⟨w.heap.size + 1, 1, none⟩) (by simp) (.int .i64 (f 0))
  have hR0 := Lib.hid R1
  have hZ0 := Lib.hid Z1
  have hB0 := Lib.hid B1
  clear r0 z0 b0 R1 Z1 B1 hb0
  go_wp2_with fail
  have R1 := hR0.out
  have Z1 := hZ0.out
  have B1 := hB0.out
  clear hR0 hZ0 hB0 c0 d0
  rw [rounds_succ]
  go_wp2_with fail
  refine (Hf.out 1 _ (by omega) B1).mono ?_
  rintro e V1 ⟨rfl, hb1⟩
  have r1 := (hb1.block _ (Array.getElem?_eq_some_iff.1 R1).1).trans R1
  have z1 := (hb1.block _ (Array.getElem?_eq_some_iff.1 Z1).1).trans Z1
  have b1 := B1.trans (Joins.below_le hb1 B1.size)
  have c1 : V1.cell? ⟨w.heap.size + 1, 2, none⟩ = some (.int .i64 0) := Joins.cell_of_block r1 2
  have d1 : V1.frozen? ⟨w.heap.size + 1, 2, none⟩ = false := Joins.unfrozen_of_block r1 2
  have R2 := Joins.block_setCell (i := 2) r1 (.int .i64 (f 1))
  simp only [List.setIfInBounds_toArray, List.set_cons_succ, List.set_cons_zero] at R2
  have Z2 := (Below.heap_setCell V1 ⟨w.heap.size + 1, 2, none⟩ (.int .i64 (f 1)) w.heap.size (by simp)).trans z1
  have B2 := b1.setCell (p := ⟨w.heap.size + 1, 2, none⟩) (by simp) (.int .i64 (f 1))
  have hR1 := Lib.hid R2
  have hZ1 := Lib.hid Z2
  have hB1 := Lib.hid B2
  clear r1 z1 b1 R2 Z2 B2 hb1
  go_wp2_with fail
  have R2 := hR1.out
  have Z2 := hZ1.out
  have B2 := hB1.out
  clear hR1 hZ1 hB1 c1 d1
  rw [rounds_succ]
  go_wp2_with fail
  refine (Hf.out 2 _ (by omega) B2).mono ?_
  rintro e V2 ⟨rfl, hb2⟩
  have r2 := (hb2.block _ (Array.getElem?_eq_some_iff.1 R2).1).trans R2
  have z2 := (hb2.block _ (Array.getElem?_eq_some_iff.1 Z2).1).trans Z2
  have b2 := B2.trans (Joins.below_le hb2 B2.size)
  have c2 : V2.cell? ⟨w.heap.size + 1, 3, none⟩ = some (.int .i64 0) := Joins.cell_of_block r2 3
  have d2 : V2.frozen? ⟨w.heap.size + 1, 3, none⟩ = false := Joins.unfrozen_of_block r2 3
  have R3 := Joins.block_setCell (i := 3) r2 (.int .i64 (f 2))
  simp only [List.setIfInBounds_toArray, List.set_cons_succ, List.set_cons_zero] at R3
  have Z3 := (Below.heap_setCell V2 ⟨w.heap.size + 1, 3, none⟩ (.int .i64 (f 2)) w.heap.size (by simp)).trans z2
  have B3 := b2.setCell (p := ⟨w.heap.size + 1, 3, none⟩) (by simp) (.int .i64 (f 2))
  have hR2 := Lib.hid R3
  have hZ2 := Lib.hid Z3
  have hB2 := Lib.hid B3
  clear r2 z2 b2 R3 Z3 B3 hb2
  go_wp2_with fail
  have R3 := hR2.out
  have Z3 := hZ2.out
  have B3 := hB2.out
  clear hR2 hZ2 hB2 c2 d2
  rw [rounds_succ]
  go_wp2_with fail
  refine (Hf.out 3 _ (by omega) B3).mono ?_
  rintro e V3 ⟨rfl, hb3⟩
  have r3 := (hb3.block _ (Array.getElem?_eq_some_iff.1 R3).1).trans R3
  have z3 := (hb3.block _ (Array.getElem?_eq_some_iff.1 Z3).1).trans Z3
  have b3 := B3.trans (Joins.below_le hb3 B3.size)
  have c3 : V3.cell? ⟨w.heap.size + 1, 4, none⟩ = some (.int .i64 0) := Joins.cell_of_block r3 4
  have d3 : V3.frozen? ⟨w.heap.size + 1, 4, none⟩ = false := Joins.unfrozen_of_block r3 4
  have R4 := Joins.block_setCell (i := 4) r3 (.int .i64 (f 3))
  simp only [List.setIfInBounds_toArray, List.set_cons_succ, List.set_cons_zero] at R4
  have Z4 := (Below.heap_setCell V3 ⟨w.heap.size + 1, 4, none⟩ (.int .i64 (f 3)) w.heap.size (by simp)).trans z3
  have B4 := b3.setCell (p := ⟨w.heap.size + 1, 4, none⟩) (by simp) (.int .i64 (f 3))
  have hR3 := Lib.hid R4
  have hZ3 := Lib.hid Z4
  have hB3 := Lib.hid B4
  clear r3 z3 b3 R4 Z4 B4 hb3
  go_wp2_with fail
  have R4 := hR3.out
  have Z4 := hZ3.out
  have B4 := hB3.out
  clear hR3 hZ3 hB3 c3 d3
  rw [rounds_succ]
  go_wp2_with fail
  refine (Hf.out 4 _ (by omega) B4).mono ?_
  rintro e V4 ⟨rfl, hb4⟩
  have r4 := (hb4.block _ (Array.getElem?_eq_some_iff.1 R4).1).trans R4
  have z4 := (hb4.block _ (Array.getElem?_eq_some_iff.1 Z4).1).trans Z4
  have b4 := B4.trans (Joins.below_le hb4 B4.size)
  have c4 : V4.cell? ⟨w.heap.size + 1, 5, none⟩ = some (.int .i64 0) := Joins.cell_of_block r4 5
  have d4 : V4.frozen? ⟨w.heap.size + 1, 5, none⟩ = false := Joins.unfrozen_of_block r4 5
  have R5 := Joins.block_setCell (i := 5) r4 (.int .i64 (f 4))
  simp only [List.setIfInBounds_toArray, List.set_cons_succ, List.set_cons_zero] at R5
  have Z5 := (Below.heap_setCell V4 ⟨w.heap.size + 1, 5, none⟩ (.int .i64 (f 4)) w.heap.size (by simp)).trans z4
  have B5 := b4.setCell (p := ⟨w.heap.size + 1, 5, none⟩) (by simp) (.int .i64 (f 4))
  have hR4 := Lib.hid R5
  have hZ4 := Lib.hid Z5
  have hB4 := Lib.hid B5
  clear r4 z4 b4 R5 Z5 B5 hb4
  go_wp2_with fail
  have R5 := hR4.out
  have Z5 := hZ4.out
  have B5 := hB4.out
  clear hR4 hZ4 hB4 c4 d4
  obtain ⟨U, hU⟩ : ∃ U, V4.setCell ⟨w.heap.size + 1, 5, none⟩ (.int .i64 (f 4)) = U := ⟨_, rfl⟩
  rw [hU] at R5 Z5 B5 ⊢
  have q : ∀ i, U.cell? ⟨w.heap.size + 1, i, none⟩ = (#[.int .i64 5, .int .i64 (f 0), .int .i64 (f 1), .int .i64 (f 2), .int .i64 (f 3), .int .i64 (f 4)] : Array Value)[i]? := fun i => Joins.cell_of_block R5 i
  have z : ∀ i, U.cell? ⟨w.heap.size, i, none⟩ = (#[.int .i64 0, .int .i64 0, .int .i64 0, .int .i64 0, .int .i64 0, .int .i64 0] : Array Value)[i]? := fun i => Joins.cell_of_block Z5 i
  have zf : ∀ i, U.frozen? ⟨w.heap.size, i, none⟩ = false := fun i => Joins.unfrozen_of_block Z5 i
  have q0 := q 0
  have q1 := q 1
  have q2 := q 2
  have q3 := q 3
  have q4 := q 4
  have q5 := q 5
  have z0 := z 0
  have z1 := z 1
  have z2 := z 2
  have z3 := z 3
  have z4 := z 4
  have z5 := z 5
  have y0 := zf 0
  have y1 := zf 1
  have y2 := zf 2
  have y3 := zf 3
  have y4 := zf 4
  have y5 := zf 5
  simp at q0 q1 q2 q3 q4 q5 z0 z1 z2 z3 z4 z5
  clear q z zf R5 Z5
  rw [rounds_succ]
  go_wp2_with fail
  refine bodyPost_ret (v := .agg #[.int .i64 5, .int .i64 (f 0), .int .i64 (f 1), .int .i64 (f 2), .int .i64 (f 3), .int .i64 (f 4)]) (by simp [results, Tryd.results38, go_sem, z0, z1, z2, z3, z4, z5]) rfl ⟨rfl, ?_⟩
  repeat' (first | (with_reducible exact B5) | (with_reducible refine Below.setCell ?_ ?_ _) | go_size)

end Go.Proofs.YtacnhklhimogkaaDoor
