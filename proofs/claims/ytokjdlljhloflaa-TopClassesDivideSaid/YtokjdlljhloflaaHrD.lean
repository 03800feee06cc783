/- graph.checkPair, Union and Inside on well-formed graphs of the same number of processes. -/
import Derived.Test.YtokjdlljhloflaaHrB
import Derived.Test.YtokjdlljhloflaaHrA
import Derived.Test.YtokjdlljhloflaaHrC
import Derived.Test.YtokjdlljhloflaaHrM
import Derived.WalkKit
import Derived.WalkSpells
import Derived.WalkLawsBesides
import Derived.Handy
import Derived.Deep.QuietTactic
import Derived.BigQuiet
import Derived.Outline
import Derived.Laws.BitsAllLaws
import Derived.IntWalk
import Derived.Lib.SmallJoins
import Derived.Lib.Hide
namespace Go.Proofs.Ytokjdlljhloflaa.Gra
open Go.RowKit



theorem bcell {W w1 : World} (hb : Below W.heap.size W w1) : (∀ b o, b < W.heap.size → w1.cell? ⟨b, o, none⟩ = W.cell? ⟨b, o, none⟩) ∧ (∀ b o, b < W.heap.size → w1.frozen? ⟨b, o, none⟩ = W.frozen? ⟨b, o, none⟩) :=
  ⟨fun b o h => hb.cell (p := ⟨b, o, none⟩) h, fun b o h => hb.frozen (p := ⟨b, o, none⟩) h⟩

set_option maxHeartbeats 400000 in
theorem pair_ok (n : Nat) (a b : Nat → Nat) (ha : WF n a) (hb : WF n b) (w : World) :
    Calls Try.prog 30 #[gv n a, gv n b] w fun e w' => e = .returned (.int .i64 0) ∧ Below w.heap.size w w' := by
  have Ha := Lib.hid ha
  have Hb := Lib.hid hb
  clear ha hb
  go_enter Try.func30, Try.ntmps30
  go_wp2_with fail
  refine (check_ok n a Ha.out _).mono ?_
  rintro e w1 ⟨rfl, hb1⟩
  obtain ⟨hc, hf⟩ := bcell hb1
  have hz : w.heap.size + 1 < w1.heap.size := by have := hb1.size; simp at this; omega
  have hz0 : w.heap.size < w1.heap.size := by omega
  go_wp2_with fail
  refine (check_ok n b Hb.out _).mono ?_
  rintro e w2 ⟨rfl, hb2⟩
  obtain ⟨hc2, hf2⟩ := bcell hb2
  go_wp2_with fail
  go_ret
  exact ⟨rfl, (((Below.refl _ _).alloc (Nat.le_refl _) _).alloc (by simp) _).trans ((Joins.below_le hb1 (by simp; omega)).trans (Joins.below_le hb2 (by omega)))⟩

theorem pow_small {n x : Nat} (hn : n ≤ 5) (hx : x < 2 ^ n) : x < 4294967296 :=
  Nat.lt_of_lt_of_le hx (Nat.le_trans (Nat.pow_le_pow_right (by omega) hn) (by decide))

theorem row_small {n : Nat} {k : Nat → Nat} (h : WF n k) {p : Nat} (hp : p < n) : k p < 4294967296 := pow_small h.1.2 (h.2.1 p hp).1

/-- The cells of a graph's block, behind what keeps them. -/
theorem cell_row {W : World} {g n : Nat} {k : Nat → Nat} (h : ∀ i, i < 6 → W.cell? ⟨g, i, none⟩ = (#[.int .i64 (n : Int), .int .i64 (k 0 : Int), .int .i64 (k 1 : Int), .int .i64 (k 2 : Int), .int .i64 (k 3 : Int), .int .i64 (k 4 : Int)] : Array Value)[i]?) {p : Nat} (hp : p < 5) :
    W.cell? ⟨g, 1 + p, none⟩ = some (.int .i64 (k p : Int)) := by
  rw [h (1 + p) (by omega)]
  obtain rfl | rfl | rfl | rfl | rfl : p = 0 ∨ p = 1 ∨ p = 2 ∨ p = 3 ∨ p = 4 := by omega
  all_goals rfl

theorem box_cell1 (w : World) (A B C : Array Value) (t1 t2 t3 : TypeId) (i : Nat) : (((w.alloc (.cells A t1)).alloc (.cells B t2)).alloc (.cells C t3)).cell? ⟨w.heap.size, i, none⟩ = A[i]? := by
  rw [World.cell?_alloc_lt _ _ _ (by simp; omega), World.cell?_alloc_lt _ _ _ (by simp)]
  exact World.cell?_alloc_mark w A t1 (0, 0) i
theorem box_cell2 (w : World) (A B C : Array Value) (t1 t2 t3 : TypeId) (i : Nat) : (((w.alloc (.cells A t1)).alloc (.cells B t2)).alloc (.cells C t3)).cell? ⟨w.heap.size + 1, i, none⟩ = B[i]? := by
  rw [World.cell?_alloc_lt _ _ _ (by simp)]
  exact Joins.cell_alloc_mark_at _ B t2 (0, 0) _ i (by simp)

theorem pad_or {n : Nat} {a b : Nat → Nat} (ha : WF n a) (hb : WF n b) {p : Nat} (hp : p < 5) : pad n (fun p => ((a p ||| b p : Nat) : Int)) p = ((a p ||| b p : Nat) : Int) := by
  unfold pad
  by_cases h : p < n
  · rw [if_pos h]
  · rw [if_neg h, ha.2.2 p (by omega) hp, hb.2.2 p (by omega) hp]
    rfl

end Go.Proofs.Ytokjdlljhloflaa.Gra
