/- The examples of the chapters on sets, graphs and partitions, as the calls in the example of the graph theorems compute them. -/
import Derived.Test.YtokjdlljhloflaaHrB
import Derived.Test.YtokjdlljhloflaaHrA
import Derived.Test.YtokjdlljhloflaaHrC
import Derived.Test.YtokjdlljhloflaaHrD
import Derived.Test.YtokjdlljhloflaaHrE
import Derived.Test.YtokjdlljhloflaaHrF
import Derived.Deep.RegionWith
import Derived.Test.YtokjdlljhloflaaHrM
import Derived.WalkKit
import Derived.WalkSpells
import Derived.WalkLawsBesides
import Derived.Handy
import Derived.Deep.QuietTactic
import Derived.BigQuiet
import Derived.Outline
import Derived.Laws.BitsAllLaws
import Derived.IntWalk
import Derived.Lib.SmallJoins
import Derived.Lib.Hide
namespace Go.Proofs.Ytokjdlljhloflaa.Gra
open Go.RowKit




theorem fresh_cell {w w1 : World} {C : Array Value} {t : TypeId} (hb : Below (w.alloc (.cells C t)).heap.size (w.alloc (.cells C t)) w1) (i : Nat) : w1.cell? ⟨w.heap.size, i, none⟩ = C[i]? :=
  (hb.cell (p := ⟨w.heap.size, i, none⟩) (by simp)).trans (World.cell?_alloc_mark w C t (0, 0) i)

theorem fresh_below {w w1 : World} {o : Obj} (hb : Below (w.alloc o).heap.size (w.alloc o) w1) : Below w.heap.size w w1 :=
  ((Below.refl _ _).alloc (Nat.le_refl _) _).trans (Joins.below_le hb (by simp))

set_option maxHeartbeats 400000 in
theorem of_c (g : Nat) (w : World) (h0 : w.cell? ⟨g, 0, none⟩ = some (.int .i64 2)) (h1 : w.cell? ⟨g, 1, none⟩ = some (.int .i64 0)) :
    Calls Try.prog 13 #[.int .i64 3, .slice (some ⟨g, 0, none⟩) 2 2] w fun e w' => e = .returned (.tuple #[.int .i64 5, .int .i64 0]) ∧ w = w' := by
  have b1 : bits .or .i64 0 4 = 4 := by decide +kernel
  have b2 : bits .or .i64 4 1 = 5 := by decide +kernel
  have b3 : bits .and .i64 0 1 = 0 := by decide +kernel
  have b4 : bits .and .i64 4 1 = 0 := by decide +kernel
  go_enter Try.func13, Try.ntmps13
  go_wp2_with fail
  refine (pcheck_any 3 (by omega) 0 (by omega) _).mono ?_
  rintro e w' ⟨rfl, rfl⟩
  go_wp2_with fail
  go_rounds 3
  go_ret2
  exact ⟨rfl, rfl⟩

theorem silent1_c (p : Nat) (hp : p < 3) (w : World) :
    Calls Try.prog 28 #[.int .i64 (p : Int)] w fun e w' => e = .returned (.int .i64 ((2 ^ p : Nat) : Int)) ∧ ∃ n, w' = w.drewN n := by
  obtain rfl | rfl | rfl : p = 0 ∨ p = 1 ∨ p = 2 := by omega
  all_goals
    go_enter Try.func28, Try.ntmps28
    go_wp2
    go_ret
    exact ⟨rfl, 0, rfl⟩

set_option maxHeartbeats 400000 in
theorem silent_c (w : World) :
    Calls Try.prog 14 #[.int .i64 3] w fun e w' => e = .returned (.tuple #[.agg #[.int .i64 3, .int .i64 1, .int .i64 2, .int .i64 4, .int .i64 0, .int .i64 0], .int .i64 0]) ∧ Below w.heap.size w w' := by
  go_enter Try.func14, Try.ntmps14
  go_wp2_with fail
  refine (rows3_any 28 _ (fun p => ((2 ^ p : Nat) : Int)) _ (fun args w => by kernel_rfl) ?_).mono ?_
  · intro p W hp _
    exact silent1_c p hp W
  rintro e w1 ⟨rfl, hb1⟩
  obtain ⟨hc, hf⟩ := bcell hb1
  have hz : w.heap.size < w1.heap.size := by have := hb1.size; simp at this; omega
  go_wp2_with fail
  have q0 := fresh_cell hb1 0
  have q1 := fresh_cell hb1 1
  have q2 := fresh_cell hb1 2
  have q3 := fresh_cell hb1 3
  have q4 := fresh_cell hb1 4
  have q5 := fresh_cell hb1 5
  simp at q0 q1 q2 q3 q4 q5
  refine bodyPost_ret (v := .tuple #[.agg #[.int .i64 3, .int .i64 1, .int .i64 2, .int .i64 4, .int .i64 0, .int .i64 0], .int .i64 0]) (by simp [results, Try.results14, go_sem, q0, q1, q2, q3, q4, q5]) rfl ⟨rfl, ?_⟩
  have hB2 := fresh_below hb1
  repeat' (first | (with_reducible exact hB2) | (with_reducible refine Below.setCell ?_ ?_ _) | go_size)

set_option maxHeartbeats 400000 in
theorem pall_c (w : World) :
    Calls Try.prog 7 #[.int .i64 3] w fun e w' => e = .returned (.tuple #[.int .i64 7, .int .i64 0]) ∧ w = w' := by
  go_enter Try.func7, Try.ntmps7
  go_wp2_with fail
  refine (pcheck_any 3 (by omega) 0 (by omega) _).mono ?_
  rintro e w' ⟨rfl, rfl⟩
  go_wp2_with fail
  go_ret2
  exact ⟨rfl, rfl⟩

theorem complete1_c (p : Nat) (g : Nat) (w : World) (h : w.cell? ⟨g, 0, none⟩ = some (.int .i64 7)) :
    Calls Try.prog 29 #[.int .i64 (p : Int), .pointer (some ⟨g, 0, none⟩)] w fun e w' => e = .returned (.int .i64 7) ∧ ∃ n, w' = w.drewN n := by
  go_enter Try.func29, Try.ntmps29
  go_wp2
  go_ret
  exact ⟨rfl, 0, rfl⟩

set_option maxHeartbeats 400000 in
theorem complete_c (w : World) :
    Calls Try.prog 15 #[.int .i64 3] w fun e w' => e = .returned (.tuple #[.agg #[.int .i64 3, .int .i64 7, .int .i64 7, .int .i64 7, .int .i64 0, .int .i64 0], .int .i64 0]) ∧ Below w.heap.size w w' := by
  go_enter Try.func15, Try.ntmps15
  go_wp2_with fail
  refine (pall_c _).mono ?_
  rintro e w' ⟨rfl, rfl⟩
  go_wp2_with fail
  refine (rows3_any 29 _ (fun p => 7) _ (fun args w => by kernel_rfl) ?_).mono ?_
  · intro p W hp hW
    refine complete1_c p _ W ?_
    exact (hW.cell (p := ⟨w.heap.size + 1, 0, none⟩) (by simp)).trans (Joins.cell_alloc_mark_at _ _ _ (0, 0) _ 0 (by simp))
  rintro e w1 ⟨rfl, hb1⟩
  obtain ⟨hc, hf⟩ := bcell hb1
  have hz : w.heap.size < w1.heap.size := by have := hb1.size; simp at this; omega
  have q : ∀ i, w1.cell? ⟨w.heap.size, i, none⟩ = (#[.int .i64 0, .int .i64 0, .int .i64 0, .int .i64 0, .int .i64 0, .int .i64 0] : Array Value)[i]? := fun i =>
    (hc _ _ (by simp; omega)).trans (box_cell1' w _ _ _ _ i)
  have q0 := q 0
  have q1 := q 1
  have q2 := q 2
  have q3 := q 3
  have q4 := q 4
  have q5 := q 5
  clear q
  simp at q0 q1 q2 q3 q4 q5
  go_wp2_with fail
  refine bodyPost_ret (v := .tuple #[.agg #[.int .i64 3, .int .i64 7, .int .i64 7, .int .i64 7, .int .i64 0, .int .i64 0], .int .i64 0]) (by simp [results, Try.results15, go_sem, q0, q1, q2, q3, q4, q5]) rfl ⟨rfl, ?_⟩
  have hB2 := (((Below.refl w.heap.size w).alloc (Nat.le_refl _) (.cells #[.int .i64 0, .int .i64 0, .int .i64 0, .int .i64 0, .int .i64 0, .int .i64 0] 38)).alloc (by simp) (.cells #[.int .i64 7] 3)).trans (Joins.below_le hb1 (by simp; omega))
  repeat' (first | (with_reducible exact hB2) | (with_reducible refine Below.setCell ?_ ?_ _) | go_size)

theorem sil_wf : WF 3 (fun p => ([1, 2, 4] : List Nat).getD p 0) := by
  refine ⟨by omega, fun p hp => ?_, fun p hp h5 => ?_⟩
  · obtain rfl | rfl | rfl : p = 0 ∨ p = 1 ∨ p = 2 := by omega
    all_goals decide
  · obtain rfl | rfl : p = 3 ∨ p = 4 := by omega
    all_goals rfl
theorem ful_wf : WF 3 (fun p => ([7, 7, 7] : List Nat).getD p 0) := by
  refine ⟨by omega, fun p hp => ?_, fun p hp h5 => ?_⟩
  · obtain rfl | rfl | rfl : p = 0 ∨ p = 1 ∨ p = 2 := by omega
    all_goals decide
  · obtain rfl | rfl : p = 3 ∨ p = 4 := by omega
    all_goals rfl

set_option maxHeartbeats 400000 in
theorem product1_c (p : Nat) (hp : p < 3) (A B : Nat) (w : World) (ha : ∀ i, w.cell? ⟨A, i, none⟩ = (#[.int .i64 3, .int .i64 1, .int .i64 2, .int .i64 4, .int .i64 0, .int .i64 0] : Array Value)[i]?)
    (hb : ∀ i, w.cell? ⟨B, i, none⟩ = (#[.int .i64 3, .int .i64 7, .int .i64 7, .int .i64 7, .int .i64 0, .int .i64 0] : Array Value)[i]?) :
    Calls Try.prog 47 #[.int .i64 (p : Int), .pointer (some ⟨A, 0, none⟩), .pointer (some ⟨B, 0, none⟩)] w fun e w' => e = .returned (.int .i64 7) ∧ ∃ n, w' = w.drewN n := by
  have c1 : bits .or .i64 0 1 = 1 := by decide +kernel
  have c2 : bits .or .i64 1 2 = 3 := by decide +kernel
  have c3 : bits .or .i64 3 4 = 7 := by decide +kernel
  have d1 : bits .and .i64 7 1 = 1 := by decide +kernel
  have d2 : bits .and .i64 3 1 = 1 := by decide +kernel
  have d3 : bits .and .i64 1 1 = 1 := by decide +kernel
  have a0 := ha 0
  have a1 := ha 1
  have a2 := ha 2
  have a3 := ha 3
  have b1 := hb 1
  have b2 := hb 2
  have b3 := hb 3
  simp at a0 a1 a2 a3 b1 b2 b3
  clear ha hb
  obtain rfl | rfl | rfl : p = 0 ∨ p = 1 ∨ p = 2 := by omega
  all_goals
    go_enter Try.func47, Try.ntmps47
    go_wp2_with fail
    go_rounds 4
    go_ret
    exact ⟨rfl, 0, rfl⟩

set_option maxHeartbeats 400000 in
theorem product_c (w : World) :
    Calls Try.prog 31 #[.agg #[.int .i64 3, .int .i64 1, .int .i64 2, .int .i64 4, .int .i64 0, .int .i64 0], .agg #[.int .i64 3, .int .i64 7, .int .i64 7, .int .i64 7, .int .i64 0, .int .i64 0]] w fun e w' => e = .returned (.agg #[.int .i64 3, .int .i64 7, .int .i64 7, .int .i64 7, .int .i64 0, .int .i64 0]) ∧ Below w.heap.size w w' := by
  go_enter Try.func31, Try.ntmps31
  go_wp2_with fail
  refine (rows3_any 47 _ (fun p => 7) _ (fun args w => by kernel_rfl) ?_).mono ?_
  · intro p W hp hW
    refine product1_c p hp _ _ W ?_ ?_
    · intro i
      rw [hW.cell (p := ⟨w.heap.size, i, none⟩) (by simp; omega)]
      exact box_cell1 w _ _ _ _ _ _ i
    · intro i
      rw [hW.cell (p := ⟨w.heap.size + 1, i, none⟩) (by simp)]
      exact box_cell2 w _ _ _ _ _ _ i
  rintro e w1 ⟨rfl, hb1⟩
  obtain ⟨hc, hf⟩ := bcell hb1
  have hz : w.heap.size + 1 + 1 < w1.heap.size := by have := hb1.size; simp at this; omega
  have q : ∀ i, w1.cell? ⟨w.heap.size + 1 + 1, i, none⟩ = (#[.int .i64 0, .int .i64 0, .int .i64 0, .int .i64 0, .int .i64 0, .int .i64 0] : Array Value)[i]? := fun i =>
    (hc _ _ (by simp)).trans (Joins.cell_alloc_mark_at _ _ _ (0, 0) _ i (by simp))
  have q0 := q 0
  have q1 := q 1
  have q2 := q 2
  have q3 := q 3
  have q4 := q 4
  have q5 := q 5
  clear q
  simp at q0 q1 q2 q3 q4 q5
  go_wp2_with fail
  refine bodyPost_ret (v := .agg #[.int .i64 3, .int .i64 7, .int .i64 7, .int .i64 7, .int .i64 0, .int .i64 0]) (by simp [results, Try.results31, go_sem, q0, q1, q2, q3, q4, q5]) rfl ⟨rfl, ?_⟩
  have hB2 := (((Below.refl w.heap.size w).alloc (Nat.le_refl _) (.cells #[.int .i64 3, .int .i64 1, .int .i64 2, .int .i64 4, .int .i64 0, .int .i64 0] 38)).alloc (by simp) (.cells #[.int .i64 3, .int .i64 7, .int .i64 7, .int .i64 7, .int .i64 0, .int .i64 0] 38)).alloc (by simp; omega) (.cells #[.int .i64 0, .int .i64 0, .int .i64 0, .int .i64 0, .int .i64 0, .int .i64 0] 38)
  have hB3 := hB2.trans (Joins.below_le hb1 (by simp; omega))
  repeat' (first | (with_reducible exact hB3) | (with_reducible refine Below.setCell ?_ ?_ _) | go_size)

set_option maxHeartbeats 400000 in
theorem part_check_c (x y z : Int) (h : (x = 0 ∧ y = 0 ∧ z = 1) ∨ (x = 0 ∧ y = 1 ∧ z = 1)) (g : Nat) (w : World) (h0 : w.cell? ⟨g, 0, none⟩ = some (.int .i64 x)) (h1 : w.cell? ⟨g, 1, none⟩ = some (.int .i64 y)) (h2 : w.cell? ⟨g, 2, none⟩ = some (.int .i64 z)) :
    Calls Try.prog 32 #[.slice (some ⟨g, 0, none⟩) 3 3] w fun e w' => e = .returned (.int .i64 0) ∧ w = w' := by
  obtain ⟨rfl, rfl, rfl⟩ | ⟨rfl, rfl, rfl⟩ := h
  all_goals
    go_enter Try.func32, Try.ntmps32
    go_wp2_with fail
    go_rounds 4
    go_ret
    exact ⟨rfl, rfl⟩

set_option maxHeartbeats 400000 in
theorem equal_c (g k : Nat) (w : World) (h0 : w.cell? ⟨g, 0, none⟩ = some (.int .i64 0)) (h1 : w.cell? ⟨g, 1, none⟩ = some (.int .i64 1)) (h2 : w.cell? ⟨g, 2, none⟩ = some (.int .i64 2))
    (k0 : w.cell? ⟨k, 0, none⟩ = some (.int .i64 0)) (k1 : w.cell? ⟨k, 1, none⟩ = some (.int .i64 1)) (k2 : w.cell? ⟨k, 2, none⟩ = some (.int .i64 2)) :
    Calls Try.prog 11 #[.slice (some ⟨g, 0, none⟩) 3 3, .slice (some ⟨k, 0, none⟩) 3 3] w fun e w' => e = .returned (.bool true) ∧ ∃ n, w' = w.drewN n := by
  go_enter Try.func11, Try.ntmps11
  go_wp2_with fail
  refine wp_loop_rounds 4 ?_
  rw [rounds_succ]
  go_wp2_with fail
  go_quiet (fail)
  go_wp2_with fail
  rw [rounds_succ]
  go_wp2_with fail
  go_quiet (fail)
  go_wp2_with fail
  rw [rounds_succ]
  go_wp2_with fail
  go_quiet (fail)
  go_wp2_with fail
  rw [rounds_succ]
  go_wp2_with fail
  go_ret
  exact ⟨rfl, _, rfl⟩

set_option maxHeartbeats 400000 in
theorem meet1_c (p : Nat) (hp : p < 3) (A B g k : Nat) (x y : Int) (w : World) (hA : A < w.heap.size) (hB : B < w.heap.size) (hg : g < w.heap.size) (hk : k < w.heap.size)
    (ha : w.cell? ⟨A, 0, none⟩ = some (.slice (some ⟨g, 0, none⟩) 3 3)) (hb : w.cell? ⟨B, 0, none⟩ = some (.slice (some ⟨k, 0, none⟩) 3 3))
    (hx : w.cell? ⟨g, p, none⟩ = some (.int .i64 x)) (hy : w.cell? ⟨k, p, none⟩ = some (.int .i64 y)) :
    Calls Try.prog 34 #[.int .i64 (p : Int), .pointer (some ⟨A, 0, none⟩), .pointer (some ⟨B, 0, none⟩)] w fun e w' => e = .returned (.agg #[.int .i64 x, .int .i64 y]) ∧ Below w.heap.size w w' := by
  have h1 : (0 : Int) ≤ (p : Int) := by omega
  have h2 : (p : Int) < 3 := by omega
  have ha' : (w.alloc (.cells #[.int .i64 0, .int .i64 0] 50)).cell? ⟨A, 0, none⟩ = some (.slice (some ⟨g, 0, none⟩) 3 3) := (World.cell?_alloc_lt w _ ⟨A, 0, none⟩ hA).trans ha
  have hb' : (w.alloc (.cells #[.int .i64 0, .int .i64 0] 50)).cell? ⟨B, 0, none⟩ = some (.slice (some ⟨k, 0, none⟩) 3 3) := (World.cell?_alloc_lt w _ ⟨B, 0, none⟩ hB).trans hb
  have hx' : (w.alloc (.cells #[.int .i64 0, .int .i64 0] 50)).cell? ⟨g, p, none⟩ = some (.int .i64 x) := (World.cell?_alloc_lt w _ ⟨g, p, none⟩ hg).trans hx
  have hy' : (w.alloc (.cells #[.int .i64 0, .int .i64 0] 50)).cell? ⟨k, p, none⟩ = some (.int .i64 y) := (World.cell?_alloc_lt w _ ⟨k, p, none⟩ hk).trans hy
  clear ha hb hx hy
  go_enter Try.func34, Try.ntmps34
  go_wp2_with fail
  go_region
  all_goals go_wp2_with fail
  go_returns
  refine ⟨rfl, ?_⟩
  repeat' (first | (with_reducible exact Below.refl _ _) | (with_reducible refine below_dn _ ?_) | (with_reducible refine Below.drew ?_) | (with_reducible refine Below.setCell ?_ ?_ _) | (with_reducible refine Below.alloc ?_ ?_ _) | go_size)

end Go.Proofs.Ytokjdlljhloflaa.Gra
