/- graph.Check returns OK for every well-formed graph. -/
import Derived.Test.YtokjdlljhloflaaHrB
import Derived.Test.YtokjdlljhloflaaHrM
import Derived.WalkKit
import Derived.WalkSpells
import Derived.WalkLawsBesides
import Derived.Handy
import Derived.Deep.QuietTactic
import Derived.BigQuiet
import Derived.Outline
import Derived.Laws.BitsAllLaws
import Derived.IntWalk
import Derived.Lib.SmallJoins
import Derived.Lib.Hide
namespace Go.Proofs.Ytokjdlljhloflaa.Gra
open Go.RowKit



theorem idx0 (x0 x1 x2 x3 x4 : Value) (w : World) : (Instr.index 36 (.agg #[x0, x1, x2, x3, x4]) (.int .i64 0)).run Try.prog w = .ok x0 w := by kernel_rfl
theorem idx1 (x0 x1 x2 x3 x4 : Value) (w : World) : (Instr.index 36 (.agg #[x0, x1, x2, x3, x4]) (.int .i64 1)).run Try.prog w = .ok x1 w := by kernel_rfl
theorem idx2 (x0 x1 x2 x3 x4 : Value) (w : World) : (Instr.index 36 (.agg #[x0, x1, x2, x3, x4]) (.int .i64 2)).run Try.prog w = .ok x2 w := by kernel_rfl
theorem idx3 (x0 x1 x2 x3 x4 : Value) (w : World) : (Instr.index 36 (.agg #[x0, x1, x2, x3, x4]) (.int .i64 3)).run Try.prog w = .ok x3 w := by kernel_rfl
theorem idx4 (x0 x1 x2 x3 x4 : Value) (w : World) : (Instr.index 36 (.agg #[x0, x1, x2, x3, x4]) (.int .i64 4)).run Try.prog w = .ok x4 w := by kernel_rfl

set_option maxHeartbeats 400000 in
theorem check1 (k0 : Nat) (w : World) (h0 : k0 < 2 ^ 1) (e0 : k0 / 2 ^ 0 % 2 = 1) :
    Calls Try.prog 46 #[.agg #[.int .i64 1, .int .i64 (k0 : Int), .int .i64 0, .int .i64 0, .int .i64 0, .int .i64 0]] w
      fun e w' => e = .returned (.int .i64 0) ∧ Below w.heap.size w w' := by
  have b0 : (bits .and .i64 (k0 : Int) 1 == 0) = false := bit_set0 k0 (by omega) (by simpa using e0)
  clear e0
  have i0 := idx0
  have i1 := idx1
  have i2 := idx2
  have i3 := idx3
  have i4 := idx4
  go_enter Try.func46, Try.ntmps46
  go_wp2_with fail
  refine wp_loop_rounds 6 ?_
  rw [rounds_succ]
  go_wp2_with fail
  refine (pcheck_any 1 (by omega) k0 h0 _).mono ?_
  rintro e w' ⟨rfl, rfl⟩
  go_wp2_with fail
  rw [rounds_succ]
  go_wp2_with fail
  rw [rounds_succ]
  go_wp2_with fail
  rw [rounds_succ]
  go_wp2_with fail
  rw [rounds_succ]
  go_wp2_with fail
  rw [rounds_succ]
  go_wp2_with fail
  go_ret
  exact ⟨rfl, (Below.refl _ _).alloc (Nat.le_refl _) _⟩

set_option maxHeartbeats 400000 in
theorem check2 (k0 k1 : Nat) (w : World) (h0 : k0 < 2 ^ 2) (e0 : k0 / 2 ^ 0 % 2 = 1) (h1 : k1 < 2 ^ 2) (e1 : k1 / 2 ^ 1 % 2 = 1) :
    Calls Try.prog 46 #[.agg #[.int .i64 2, .int .i64 (k0 : Int), .int .i64 (k1 : Int), .int .i64 0, .int .i64 0, .int .i64 0]] w
      fun e w' => e = .returned (.int .i64 0) ∧ Below w.heap.size w w' := by
  have b0 : (bits .and .i64 (k0 : Int) 1 == 0) = false := bit_set0 k0 (by omega) (by simpa using e0)
  have b1 : (bits .and .i64 ((k1 : Int) / 2) 1 == 0) = false := bit_set k1 2 (by omega) e1
  clear e0 e1
  have i0 := idx0
  have i1 := idx1
  have i2 := idx2
  have i3 := idx3
  have i4 := idx4
  go_enter Try.func46, Try.ntmps46
  go_wp2_with fail
  refine wp_loop_rounds 6 ?_
  rw [rounds_succ]
  go_wp2_with fail
  refine (pcheck_any 2 (by omega) k0 h0 _).mono ?_
  rintro e w' ⟨rfl, rfl⟩
  go_wp2_with fail
  rw [rounds_succ]
  go_wp2_with fail
  refine (pcheck_any 2 (by omega) k1 h1 _).mono ?_
  rintro e w' ⟨rfl, rfl⟩
  go_wp2_with fail
  rw [rounds_succ]
  go_wp2_with fail
  rw [rounds_succ]
  go_wp2_with fail
  rw [rounds_succ]
  go_wp2_with fail
  rw [rounds_succ]
  go_wp2_with fail
  go_ret
  exact ⟨rfl, (Below.refl _ _).alloc (Nat.le_refl _) _⟩

set_option maxHeartbeats 400000 in
theorem check3 (k0 k1 k2 : Nat) (w : World) (h0 : k0 < 2 ^ 3) (e0 : k0 / 2 ^ 0 % 2 = 1) (h1 : k1 < 2 ^ 3) (e1 : k1 / 2 ^ 1 % 2 = 1) (h2 : k2 < 2 ^ 3) (e2 : k2 / 2 ^ 2 % 2 = 1) :
    Calls Try.prog 46 #[.agg #[.int .i64 3, .int .i64 (k0 : Int), .int .i64 (k1 : Int), .int .i64 (k2 : Int), .int .i64 0, .int .i64 0]] w
      fun e w' => e = .returned (.int .i64 0) ∧ Below w.heap.size w w' := by
  have b0 : (bits .and .i64 (k0 : Int) 1 == 0) = false := bit_set0 k0 (by omega) (by simpa using e0)
  have b1 : (bits .and .i64 ((k1 : Int) / 2) 1 == 0) = false := bit_set k1 2 (by omega) e1
  have b2 : (bits .and .i64 ((k2 : Int) / 4) 1 == 0) = false := bit_set k2 4 (by omega) e2
  clear e0 e1 e2
  have i0 := idx0
  have i1 := idx1
  have i2 := idx2
  have i3 := idx3
  have i4 := idx4
  go_enter Try.func46, Try.ntmps46
  go_wp2_with fail
  refine wp_loop_rounds 6 ?_
  rw [rounds_succ]
  go_wp2_with fail
  refine (pcheck_any 3 (by omega) k0 h0 _).mono ?_
  rintro e w' ⟨rfl, rfl⟩
  go_wp2_with fail
  rw [rounds_succ]
  go_wp2_with fail
  refine (pcheck_any 3 (by omega) k1 h1 _).mono ?_
  rintro e w' ⟨rfl, rfl⟩
  go_wp2_with fail
  rw [rounds_succ]
  go_wp2_with fail
  refine (pcheck_any 3 (by omega) k2 h2 _).mono ?_
  rintro e w' ⟨rfl, rfl⟩
  go_wp2_with fail
  rw [rounds_succ]
  go_wp2_with fail
  rw [rounds_succ]
  go_wp2_with fail
  rw [rounds_succ]
  go_wp2_with fail
  go_ret
  exact ⟨rfl, (Below.refl _ _).alloc (Nat.le_refl _) _⟩

set_option maxHeartbeats 400000 in
theorem check4 (k0 k1 k2 k3 : Nat) (w : World) (h0 : k0 < 2 ^ 4) (e0 : k0 / 2 ^ 0 % 2 = 1) (h1 : k1 < 2 ^ 4) (e1 : k1 / 2 ^ 1 % 2 = 1) (h2 : k2 < 2 ^ 4) (e2 : k2 / 2 ^ 2 % 2 = 1) (h3 : k3 < 2 ^ 4) (e3 : k3 / 2 ^ 3 % 2 = 1) :
    Calls Try.prog 46 #[.agg #[.int .i64 4, .int .i64 (k0 : Int), .int .i64 (k1 : Int), .int .i64 (k2 : Int), .int .i64 (k3 : Int), .int .i64 0]] w
      fun e w' => e = .returned (.int .i64 0) ∧ Below w.heap.size w w' := by
  have b0 : (bits .and .i64 (k0 : Int) 1 == 0) = false := bit_set0 k0 (by omega) (by simpa using e0)
  have b1 : (bits .and .i64 ((k1 : Int) / 2) 1 == 0) = false := bit_set k1 2 (by omega) e1
  have b2 : (bits .and .i64 ((k2 : Int) / 4) 1 == 0) = false := bit_set k2 4 (by omega) e2
  have b3 : (bits .and .i64 ((k3 : Int) / 8) 1 == 0) = false := bit_set k3 8 (by omega) e3
  clear e0 e1 e2 e3
  have i0 := idx0
  have i1 := idx1
  have i2 := idx2
  have i3 := idx3
  have i4 := idx4
  go_enter Try.func46, Try.ntmps46
  go_wp2_with fail
  refine wp_loop_rounds 6 ?_
  rw [rounds_succ]
  go_wp2_with fail
  refine (pcheck_any 4 (by omega) k0 h0 _).mono ?_
  rintro e w' ⟨rfl, rfl⟩
  go_wp2_with fail
  rw [rounds_succ]
  go_wp2_with fail
  refine (pcheck_any 4 (by omega) k1 h1 _).mono ?_
  rintro e w' ⟨rfl, rfl⟩
  go_wp2_with fail
  rw [rounds_succ]
  go_wp2_with fail
  refine (pcheck_any 4 (by omega) k2 h2 _).mono ?_
  rintro e w' ⟨rfl, rfl⟩
  go_wp2_with fail
  rw [rounds_succ]
  go_wp2_with fail
  refine (pcheck_any 4 (by omega) k3 h3 _).mono ?_
  rintro e w' ⟨rfl, rfl⟩
  go_wp2_with fail
  rw [rounds_succ]
  go_wp2_with fail
  rw [rounds_succ]
  go_wp2_with fail
  go_ret
  exact ⟨rfl, (Below.refl _ _).alloc (Nat.le_refl _) _⟩

set_option maxHeartbeats 400000 in
theorem check5 (k0 k1 k2 k3 k4 : Nat) (w : World) (h0 : k0 < 2 ^ 5) (e0 : k0 / 2 ^ 0 % 2 = 1) (h1 : k1 < 2 ^ 5) (e1 : k1 / 2 ^ 1 % 2 = 1) (h2 : k2 < 2 ^ 5) (e2 : k2 / 2 ^ 2 % 2 = 1) (h3 : k3 < 2 ^ 5) (e3 : k3 / 2 ^ 3 % 2 = 1) (h4 : k4 < 2 ^ 5) (e4 : k4 / 2 ^ 4 % 2 = 1) :
    Calls Try.prog 46 #[.agg #[.int .i64 5, .int .i64 (k0 : Int), .int .i64 (k1 : Int), .int .i64 (k2 : Int), .int .i64 (k3 : Int), .int .i64 (k4 : Int)]] w
      fun e w' => e = .returned (.int .i64 0) ∧ Below w.heap.size w w' := by
  have b0 : (bits .and .i64 (k0 : Int) 1 == 0) = false := bit_set0 k0 (by omega) (by simpa using e0)
  have b1 : (bits .and .i64 ((k1 : Int) / 2) 1 == 0) = false := bit_set k1 2 (by omega) e1
  have b2 : (bits .and .i64 ((k2 : Int) / 4) 1 == 0) = false := bit_set k2 4 (by omega) e2
  have b3 : (bits .and .i64 ((k3 : Int) / 8) 1 == 0) = false := bit_set k3 8 (by omega) e3
  have b4 : (bits .and .i64 ((k4 : Int) / 16) 1 == 0) = false := bit_set k4 16 (by omega) e4
  clear e0 e1 e2 e3 e4
  have i0 := idx0
  have i1 := idx1
  have i2 := idx2
  have i3 := idx3
  have i4 := idx4
  go_enter Try.func46, Try.ntmps46
  go_wp2_with fail
  refine wp_loop_rounds 6 ?_
  rw [rounds_succ]
  go_wp2_with fail
  refine (pcheck_any 5 (by omega) k0 h0 _).mono ?_
  rintro e w' ⟨rfl, rfl⟩
  go_wp2_with fail
  rw [rounds_succ]
  go_wp2_with fail
  refine (pcheck_any 5 (by omega) k1 h1 _).mono ?_
  rintro e w' ⟨rfl, rfl⟩
  go_wp2_with fail
  rw [rounds_succ]
  go_wp2_with fail
  refine (pcheck_any 5 (by omega) k2 h2 _).mono ?_
  rintro e w' ⟨rfl, rfl⟩
  go_wp2_with fail
  rw [rounds_succ]
  go_wp2_with fail
  refine (pcheck_any 5 (by omega) k3 h3 _).mono ?_
  rintro e w' ⟨rfl, rfl⟩
  go_wp2_with fail
  rw [rounds_succ]
  go_wp2_with fail
  refine (pcheck_any 5 (by omega) k4 h4 _).mono ?_
  rintro e w' ⟨rfl, rfl⟩
  go_wp2_with fail
  rw [rounds_succ]
  go_wp2_with fail
  go_ret
  exact ⟨rfl, (Below.refl _ _).alloc (Nat.le_refl _) _⟩

/-- A well-formed graph of n processes with the rows k. -/
def WF (n : Nat) (k : Nat → Nat) : Prop := (1 ≤ n ∧ n ≤ 5) ∧ (∀ p, p < n → k p < 2 ^ n ∧ k p / 2 ^ p % 2 = 1) ∧ ∀ p, n ≤ p → p < 5 → k p = 0

/-- The graph as a value. -/
abbrev gv (n : Nat) (k : Nat → Nat) : Value := .agg #[.int .i64 (n : Int), .int .i64 (k 0 : Int), .int .i64 (k 1 : Int), .int .i64 (k 2 : Int), .int .i64 (k 3 : Int), .int .i64 (k 4 : Int)]

theorem check_ok (n : Nat) (k : Nat → Nat) (h : WF n k) (w : World) :
    Calls Try.prog 46 #[gv n k] w fun e w' => e = .returned (.int .i64 0) ∧ Below w.heap.size w w' := by
  obtain ⟨hn, hr, hz⟩ := h
  unfold gv
  obtain rfl | rfl | rfl | rfl | rfl : n = 1 ∨ n = 2 ∨ n = 3 ∨ n = 4 ∨ n = 5 := by omega
  · rw [hz 1 (by omega) (by omega), hz 2 (by omega) (by omega), hz 3 (by omega) (by omega), hz 4 (by omega) (by omega)]
    exact check1 (k 0) w (hr 0 (by omega)).1 (hr 0 (by omega)).2
  · rw [hz 2 (by omega) (by omega), hz 3 (by omega) (by omega), hz 4 (by omega) (by omega)]
    exact check2 (k 0) (k 1) w (hr 0 (by omega)).1 (hr 0 (by omega)).2 (hr 1 (by omega)).1 (hr 1 (by omega)).2
  · rw [hz 3 (by omega) (by omega), hz 4 (by omega) (by omega)]
    exact check3 (k 0) (k 1) (k 2) w (hr 0 (by omega)).1 (hr 0 (by omega)).2 (hr 1 (by omega)).1 (hr 1 (by omega)).2 (hr 2 (by omega)).1 (hr 2 (by omega)).2
  · rw [hz 4 (by omega) (by omega)]
    exact check4 (k 0) (k 1) (k 2) (k 3) w (hr 0 (by omega)).1 (hr 0 (by omega)).2 (hr 1 (by omega)).1 (hr 1 (by omega)).2 (hr 2 (by omega)).1 (hr 2 (by omega)).2 (hr 3 (by omega)).1 (hr 3 (by omega)).2
  · exact check5 (k 0) (k 1) (k 2) (k 3) (k 4) w (hr 0 (by omega)).1 (hr 0 (by omega)).2 (hr 1 (by omega)).1 (hr 1 (by omega)).2 (hr 2 (by omega)).1 (hr 2 (by omega)).2 (hr 3 (by omega)).1 (hr 3 (by omega)).2 (hr 4 (by omega)).1 (hr 4 (by omega)).2
end Go.Proofs.Ytokjdlljhloflaa.Gra
