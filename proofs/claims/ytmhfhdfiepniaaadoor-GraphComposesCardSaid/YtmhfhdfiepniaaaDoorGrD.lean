/- graph.checkPair, Union and Inside on well-formed graphs of the same number of processes. -/
import Derived.Test.YtmhfhdfiepniaaaDoorGrB
import Derived.Test.YtmhfhdfiepniaaaDoorGrA
import Derived.Test.YtmhfhdfiepniaaaDoorGrC
import Derived.Test.YtmhfhdfiepniaaaDoorGrM
import Derived.WalkKit
import Derived.WalkSpells
import Derived.WalkLawsBesides
import Derived.Handy
import Derived.Deep.QuietTactic
import Derived.BigQuiet
import Derived.Outline
import Derived.Laws.BitsAllLaws
import Derived.IntWalk
import Derived.Lib.SmallJoins
import Derived.Lib.Hide
namespace Go.Proofs.YtmhfhdfiepniaaaDoor
set_option linter.unusedVariables false
set_option linter.unusedSimpArgs false
open Go.RowKit



theorem bcell {W w1 : World} (hb : Below W.heap.size W w1) : (∀ b o, b < W.heap.size → w1.cell? ⟨b, o, none⟩ = W.cell? ⟨b, o, none⟩) ∧ (∀ b o, b < W.heap.size → w1.frozen? ⟨b, o, none⟩ = W.frozen? ⟨b, o, none⟩) :=
  ⟨fun b o h => hb.cell (p := ⟨b, o, none⟩) h, fun b o h => hb.frozen (p := ⟨b, o, none⟩) h⟩

set_option maxHeartbeats 400000 in
theorem pair_ok (n : Nat) (a b : Nat → Nat) (ha : WF n a) (hb : WF n b) (w : World) :
    Calls Tryd.prog 21 #[gv n a, gv n b] w fun e w' => e = .returned (.int .i64 0) ∧ Below w.heap.size w w' := by
  have Ha := Lib.hid ha
  have Hb := Lib.hid hb
  clear ha hb
  go_enter Tryd.func21, Tryd.ntmps21
  go_wp2_with fail
  refine (check_ok n a Ha.out _).mono ?_
  rintro e w1 ⟨rfl, hb1⟩
  obtain ⟨hc, hf⟩ := bcell hb1
  have hz : w.heap.size + 1 < w1.heap.size := by have := hb1.size; simp at this; omega
  have hz0 : w.heap.size < w1.heap.size := by omega
  go_wp2_with fail
  refine (check_ok n b Hb.out _).mono ?_
  rintro e w2 ⟨rfl, hb2⟩
  obtain ⟨hc2, hf2⟩ := bcell hb2
  go_wp2_with fail
  go_ret
  exact ⟨rfl, (((Below.refl _ _).alloc (Nat.le_refl _) _).alloc (by simp) _).trans ((Joins.below_le hb1 (by simp; omega)).trans (Joins.below_le hb2 (by omega)))⟩

theorem pow_small {n x : Nat} (hn : n ≤ 5) (hx : x < 2 ^ n) : x < 4294967296 :=
  Nat.lt_of_lt_of_le hx (Nat.le_trans (Nat.pow_le_pow_right (by omega) hn) (by decide))

theorem row_small {n : Nat} {k : Nat → Nat} (h : WF n k) {p : Nat} (hp : p < n) : k p < 4294967296 := pow_small h.1.2 (h.2.1 p hp).1

/-- The cells of a graph's block, behind what keeps them. -/
theorem cell_row {W : World} {g n : Nat} {k : Nat → Nat} (h : ∀ i, i < 6 → W.cell? ⟨g, i, none⟩ = (#[.int .i64 (n : Int), .int .i64 (k 0 : Int), .int .i64 (k 1 : Int), .int .i64 (k 2 : Int), .int .i64 (k 3 : Int), .int .i64 (k 4 : Int)] : Array Value)[i]?) {p : Nat} (hp : p < 5) :
    W.cell? ⟨g, 1 + p, none⟩ = some (.int .i64 (k p : Int)) := by
  rw [h (1 + p) (by omega)]
  obtain rfl | rfl | rfl | rfl | rfl : p = 0 ∨ p = 1 ∨ p = 2 ∨ p = 3 ∨ p = 4 := by omega
  all_goals rfl

theorem box_cell1 (w : World) (A B C : Array Value) (t1 t2 t3 : TypeId) (i : Nat) : (((w.alloc (.cells A t1)).alloc (.cells B t2)).alloc (.cells C t3)).cell? ⟨w.heap.size, i, none⟩ = A[i]? := by
  rw [World.cell?_alloc_lt _ _ _ (by simp; omega), World.cell?_alloc_lt _ _ _ (by simp)]
  exact World.cell?_alloc_mark w A t1 (0, 0) i
theorem box_cell2 (w : World) (A B C : Array Value) (t1 t2 t3 : TypeId) (i : Nat) : (((w.alloc (.cells A t1)).alloc (.cells B t2)).alloc (.cells C t3)).cell? ⟨w.heap.size + 1, i, none⟩ = B[i]? := by
  rw [World.cell?_alloc_lt _ _ _ (by simp)]
  exact Joins.cell_alloc_mark_at _ B t2 (0, 0) _ i (by simp)

theorem pad_or {n : Nat} {a b : Nat → Nat} (ha : WF n a) (hb : WF n b) {p : Nat} (hp : p < 5) : pad n (fun p => ((a p ||| b p : Nat) : Int)) p = ((a p ||| b p : Nat) : Int) := by
  unfold pad
  by_cases h : p < n
  · rw [if_pos h]
  · rw [if_neg h, ha.2.2 p (by omega) hp, hb.2.2 p (by omega) hp]
    rfl

set_option maxHeartbeats 400000 in
theorem union_ok (n : Nat) (a b : Nat → Nat) (ha : WF n a) (hb : WF n b) (w : World) :
    Calls Tryd.prog 9 #[gv n a, gv n b] w fun e w' => e = .returned (.tuple #[gv n (fun p => a p ||| b p), .int .i64 0]) ∧ Below w.heap.size w w' := by
  have Ha := Lib.hid ha
  have Hb := Lib.hid hb
  have hn1 : 1 ≤ n := ha.1.1
  have hn5 : n ≤ 5 := ha.1.2
  clear ha hb
  go_enter Tryd.func9, Tryd.ntmps9
  go_wp2_with fail
  refine (pair_ok n a b Ha.out Hb.out _).mono ?_
  rintro e w1 ⟨rfl, hb1⟩
  obtain ⟨hc, hf⟩ := bcell hb1
  have hz : w.heap.size + 2 < w1.heap.size := by have := hb1.size; simp at this; omega
  have hz0 : w.heap.size < w1.heap.size := by omega
  have hz1 : w.heap.size + 1 < w1.heap.size := by omega
  go_wp2_with fail
  refine (rows_any n ⟨hn1, hn5⟩ 25 _ (fun p => ((a p ||| b p : Nat) : Int)) _ (fun args w => by kernel_rfl) ?_).mono ?_
  · intro p W hp hW
    have hx : W.cell? ⟨w.heap.size, 1 + p, none⟩ = some (.int .i64 (a p : Int)) := cell_row (n := n) (fun i hi => by
      rw [hW.cell (p := ⟨w.heap.size, i, none⟩) hz0, hc _ _ (by simp; omega)]
      exact box_cell1 w _ _ _ _ _ _ i) (by omega)
    have hy : W.cell? ⟨w.heap.size + 1, 1 + p, none⟩ = some (.int .i64 (b p : Int)) := cell_row (n := n) (fun i hi => by
      rw [hW.cell (p := ⟨w.heap.size + 1, i, none⟩) hz1, hc _ _ (by simp)]
      exact box_cell2 w _ _ _ _ _ _ i) (by omega)
    refine (union1_any p (by omega) _ _ _ _ W hx hy).mono ?_
    rintro e W' ⟨rfl, hn⟩
    exact ⟨by rw [i64_or_nat _ _ (row_small Ha.out hp) (row_small Hb.out hp)], hn⟩
  rintro e w2 ⟨rfl, hb2⟩
  rw [pad_or Ha.out Hb.out (by omega), pad_or Ha.out Hb.out (by omega), pad_or Ha.out Hb.out (by omega), pad_or Ha.out Hb.out (by omega), pad_or Ha.out Hb.out (by omega)]
  obtain ⟨hc2, hf2⟩ := bcell hb2
  have hz2 : w.heap.size + 2 < w2.heap.size := by have := hb2.size; omega
  go_wp2_with fail
  have q : ∀ i, i < 6 → w2.cell? ⟨w.heap.size + 1 + 1, i, none⟩ = some (.int .i64 0) := fun i hi => by
    rw [hc2 _ _ hz, hc _ _ (by simp)]
    obtain rfl | rfl | rfl | rfl | rfl | rfl : i = 0 ∨ i = 1 ∨ i = 2 ∨ i = 3 ∨ i = 4 ∨ i = 5 := by omega
    all_goals exact Joins.cell_alloc_mark_at _ _ _ (0, 0) _ _ (by simp)
  have q0 := q 0 (by omega)
  have q1 := q 1 (by omega)
  have q2 := q 2 (by omega)
  have q3 := q 3 (by omega)
  have q4 := q 4 (by omega)
  have q5 := q 5 (by omega)
  refine bodyPost_ret (v := .tuple #[gv n (fun p => a p ||| b p), .int .i64 0]) (by simp [results, Tryd.results9, go_sem, q0, q1, q2, q3, q4, q5]) rfl ⟨rfl, ?_⟩
  have hB0 := (((Below.refl w.heap.size w).alloc (Nat.le_refl _) (.cells #[.int .i64 (n : Int), .int .i64 (a 0 : Int), .int .i64 (a 1 : Int), .int .i64 (a 2 : Int), .int .i64 (a 3 : Int), .int .i64 (a 4 : Int)] 24)).alloc (by simp) (.cells #[.int .i64 (n : Int), .int .i64 (b 0 : Int), .int .i64 (b 1 : Int), .int .i64 (b 2 : Int), .int .i64 (b 3 : Int), .int .i64 (b 4 : Int)] 24)).alloc (by simp; omega) (.cells #[.int .i64 0, .int .i64 0, .int .i64 0, .int .i64 0, .int .i64 0, .int .i64 0] 24)
  have hB2 := (hB0.trans (Joins.below_le hb1 (by simp; omega))).trans (Joins.below_le hb2 (by omega))
  repeat' (first | (with_reducible exact hB2) | (with_reducible refine Below.setCell ?_ ?_ _) | go_size)
end Go.Proofs.YtmhfhdfiepniaaaDoor
