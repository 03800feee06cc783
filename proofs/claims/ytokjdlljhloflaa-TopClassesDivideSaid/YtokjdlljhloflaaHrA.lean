/- The function graph.rows: if the function that it is given returns f p for each process p and only reads, it returns the graph with these rows. -/
import Derived.Test.YtokjdlljhloflaaRows
import Derived.WalkKit
import Derived.WalkSpells
import Derived.WalkLawsBesides
import Derived.Handy
import Derived.Deep.QuietTactic
import Derived.BigQuiet
import Derived.Outline
import Derived.Laws.BitsAllLaws
import Derived.IntWalk
import Derived.Lib.SmallJoins
import Derived.Lib.Hide
import Derived.Handy
namespace Go.Proofs.Ytokjdlljhloflaa.Gra
open Go.RowKit

theorem below_dn {B : Nat} {w W : World} (n : Nat) (h : Below B w W) : Below B w (W.drewN n) := h.trans (Joins.below_draws B W n)

set_option maxHeartbeats 400000 in
theorem rows1_any (K : Nat) (lb : Array Value) (f : Nat → Int) (w : World)
    (hK : ∀ args w, (callFunc K args).run Try.prog w = .ok (.enter K args) w)
    (hf : ∀ (p : Nat) W, p < 1 → Below w.heap.size w W → Calls Try.prog K (#[.int .i64 (p : Int)] ++ lb) W fun e W' => e = .returned (.int .i64 (f p)) ∧ ∃ n, W' = W.drewN n) :
    Calls Try.prog 27 #[.int .i64 1, .func (.func K) #[] lb] w
      fun e w' => e = .returned (.agg #[.int .i64 1, .int .i64 (f 0), .int .i64 0, .int .i64 0, .int .i64 0, .int .i64 0]) ∧ Below w.heap.size w w' := by
  have Hf := Lib.hid hf
  clear hf
  go_enter Try.func27, Try.ntmps27
  go_wp2_with fail
  refine wp_loop_rounds 2 ?_
  rw [rounds_succ]
  go_wp2_with fail
  refine (Hf.out 0 _ (by omega) ?_).mono ?_
  · repeat' (first | (with_reducible exact Below.refl _ _) | (with_reducible refine below_dn _ ?_) | (with_reducible refine Below.setCell ?_ ?_ _) | (with_reducible refine Below.alloc ?_ ?_ _) | go_size)
  rintro e w' ⟨rfl, n0, rfl⟩
  go_wp2_with fail
  rw [rounds_succ]
  go_wp2_with fail
  go_returns
  refine ⟨rfl, ?_⟩
  repeat' (first | (with_reducible exact Below.refl _ _) | (with_reducible refine below_dn _ ?_) | (with_reducible refine Below.setCell ?_ ?_ _) | (with_reducible refine Below.alloc ?_ ?_ _) | go_size)

set_option maxHeartbeats 400000 in
theorem rows2_any (K : Nat) (lb : Array Value) (f : Nat → Int) (w : World)
    (hK : ∀ args w, (callFunc K args).run Try.prog w = .ok (.enter K args) w)
    (hf : ∀ (p : Nat) W, p < 2 → Below w.heap.size w W → Calls Try.prog K (#[.int .i64 (p : Int)] ++ lb) W fun e W' => e = .returned (.int .i64 (f p)) ∧ ∃ n, W' = W.drewN n) :
    Calls Try.prog 27 #[.int .i64 2, .func (.func K) #[] lb] w
      fun e w' => e = .returned (.agg #[.int .i64 2, .int .i64 (f 0), .int .i64 (f 1), .int .i64 0, .int .i64 0, .int .i64 0]) ∧ Below w.heap.size w w' := by
  have Hf := Lib.hid hf
  clear hf
  go_enter Try.func27, Try.ntmps27
  go_wp2_with fail
  refine wp_loop_rounds 3 ?_
  rw [rounds_succ]
  go_wp2_with fail
  refine (Hf.out 0 _ (by omega) ?_).mono ?_
  · repeat' (first | (with_reducible exact Below.refl _ _) | (with_reducible refine below_dn _ ?_) | (with_reducible refine Below.setCell ?_ ?_ _) | (with_reducible refine Below.alloc ?_ ?_ _) | go_size)
  rintro e w' ⟨rfl, n0, rfl⟩
  go_wp2_with fail
  rw [rounds_succ]
  go_wp2_with fail
  refine (Hf.out 1 _ (by omega) ?_).mono ?_
  · repeat' (first | (with_reducible exact Below.refl _ _) | (with_reducible refine below_dn _ ?_) | (with_reducible refine Below.setCell ?_ ?_ _) | (with_reducible refine Below.alloc ?_ ?_ _) | go_size)
  rintro e w' ⟨rfl, n1, rfl⟩
  go_wp2_with fail
  rw [rounds_succ]
  go_wp2_with fail
  go_returns
  refine ⟨rfl, ?_⟩
  repeat' (first | (with_reducible exact Below.refl _ _) | (with_reducible refine below_dn _ ?_) | (with_reducible refine Below.setCell ?_ ?_ _) | (with_reducible refine Below.alloc ?_ ?_ _) | go_size)

set_option maxHeartbeats 400000 in
theorem rows3_any (K : Nat) (lb : Array Value) (f : Nat → Int) (w : World)
    (hK : ∀ args w, (callFunc K args).run Try.prog w = .ok (.enter K args) w)
    (hf : ∀ (p : Nat) W, p < 3 → Below w.heap.size w W → Calls Try.prog K (#[.int .i64 (p : Int)] ++ lb) W fun e W' => e = .returned (.int .i64 (f p)) ∧ ∃ n, W' = W.drewN n) :
    Calls Try.prog 27 #[.int .i64 3, .func (.func K) #[] lb] w
      fun e w' => e = .returned (.agg #[.int .i64 3, .int .i64 (f 0), .int .i64 (f 1), .int .i64 (f 2), .int .i64 0, .int .i64 0]) ∧ Below w.heap.size w w' := by
  have Hf := Lib.hid hf
  clear hf
  go_enter Try.func27, Try.ntmps27
  go_wp2_with fail
  refine wp_loop_rounds 4 ?_
  rw [rounds_succ]
  go_wp2_with fail
  refine (Hf.out 0 _ (by omega) ?_).mono ?_
  · repeat' (first | (with_reducible exact Below.refl _ _) | (with_reducible refine below_dn _ ?_) | (with_reducible refine Below.setCell ?_ ?_ _) | (with_reducible refine Below.alloc ?_ ?_ _) | go_size)
  rintro e w' ⟨rfl, n0, rfl⟩
  go_wp2_with fail
  rw [rounds_succ]
  go_wp2_with fail
  refine (Hf.out 1 _ (by omega) ?_).mono ?_
  · repeat' (first | (with_reducible exact Below.refl _ _) | (with_reducible refine below_dn _ ?_) | (with_reducible refine Below.setCell ?_ ?_ _) | (with_reducible refine Below.alloc ?_ ?_ _) | go_size)
  rintro e w' ⟨rfl, n1, rfl⟩
  go_wp2_with fail
  rw [rounds_succ]
  go_wp2_with fail
  refine (Hf.out 2 _ (by omega) ?_).mono ?_
  · repeat' (first | (with_reducible exact Below.refl _ _) | (with_reducible refine below_dn _ ?_) | (with_reducible refine Below.setCell ?_ ?_ _) | (with_reducible refine Below.alloc ?_ ?_ _) | go_size)
  rintro e w' ⟨rfl, n2, rfl⟩
  go_wp2_with fail
  rw [rounds_succ]
  go_wp2_with fail
  go_returns
  refine ⟨rfl, ?_⟩
  repeat' (first | (with_reducible exact Below.refl _ _) | (with_reducible refine below_dn _ ?_) | (with_reducible refine Below.setCell ?_ ?_ _) | (with_reducible refine Below.alloc ?_ ?_ _) | go_size)

set_option maxHeartbeats 400000 in
theorem rows4_any (K : Nat) (lb : Array Value) (f : Nat → Int) (w : World)
    (hK : ∀ args w, (callFunc K args).run Try.prog w = .ok (.enter K args) w)
    (hf : ∀ (p : Nat) W, p < 4 → Below w.heap.size w W → Calls Try.prog K (#[.int .i64 (p : Int)] ++ lb) W fun e W' => e = .returned (.int .i64 (f p)) ∧ ∃ n, W' = W.drewN n) :
    Calls Try.prog 27 #[.int .i64 4, .func (.func K) #[] lb] w
      fun e w' => e = .returned (.agg #[.int .i64 4, .int .i64 (f 0), .int .i64 (f 1), .int .i64 (f 2), .int .i64 (f 3), .int .i64 0]) ∧ Below w.heap.size w w' := by
  have Hf := Lib.hid hf
  clear hf
  go_enter Try.func27, Try.ntmps27
  go_wp2_with fail
  refine wp_loop_rounds 5 ?_
  rw [rounds_succ]
  go_wp2_with fail
  refine (Hf.out 0 _ (by omega) ?_).mono ?_
  · repeat' (first | (with_reducible exact Below.refl _ _) | (with_reducible refine below_dn _ ?_) | (with_reducible refine Below.setCell ?_ ?_ _) | (with_reducible refine Below.alloc ?_ ?_ _) | go_size)
  rintro e w' ⟨rfl, n0, rfl⟩
  go_wp2_with fail
  rw [rounds_succ]
  go_wp2_with fail
  refine (Hf.out 1 _ (by omega) ?_).mono ?_
  · repeat' (first | (with_reducible exact Below.refl _ _) | (with_reducible refine below_dn _ ?_) | (with_reducible refine Below.setCell ?_ ?_ _) | (with_reducible refine Below.alloc ?_ ?_ _) | go_size)
  rintro e w' ⟨rfl, n1, rfl⟩
  go_wp2_with fail
  rw [rounds_succ]
  go_wp2_with fail
  refine (Hf.out 2 _ (by omega) ?_).mono ?_
  · repeat' (first | (with_reducible exact Below.refl _ _) | (with_reducible refine below_dn _ ?_) | (with_reducible refine Below.setCell ?_ ?_ _) | (with_reducible refine Below.alloc ?_ ?_ _) | go_size)
  rintro e w' ⟨rfl, n2, rfl⟩
  go_wp2_with fail
  rw [rounds_succ]
  go_wp2_with fail
  refine (Hf.out 3 _ (by omega) ?_).mono ?_
  · repeat' (first | (with_reducible exact Below.refl _ _) | (with_reducible refine below_dn _ ?_) | (with_reducible refine Below.setCell ?_ ?_ _) | (with_reducible refine Below.alloc ?_ ?_ _) | go_size)
  rintro e w' ⟨rfl, n3, rfl⟩
  go_wp2_with fail
  rw [rounds_succ]
  go_wp2_with fail
  go_returns
  refine ⟨rfl, ?_⟩
  repeat' (first | (with_reducible exact Below.refl _ _) | (with_reducible refine below_dn _ ?_) | (with_reducible refine Below.setCell ?_ ?_ _) | (with_reducible refine Below.alloc ?_ ?_ _) | go_size)

set_option maxHeartbeats 400000 in
theorem rows5_any (K : Nat) (lb : Array Value) (f : Nat → Int) (w : World)
    (hK : ∀ args w, (callFunc K args).run Try.prog w = .ok (.enter K args) w)
    (hf : ∀ (p : Nat) W, p < 5 → Below w.heap.size w W → Calls Try.prog K (#[.int .i64 (p : Int)] ++ lb) W fun e W' => e = .returned (.int .i64 (f p)) ∧ ∃ n, W' = W.drewN n) :
    Calls Try.prog 27 #[.int .i64 5, .func (.func K) #[] lb] w
      fun e w' => e = .returned (.agg #[.int .i64 5, .int .i64 (f 0), .int .i64 (f 1), .int .i64 (f 2), .int .i64 (f 3), .int .i64 (f 4)]) ∧ Below w.heap.size w w' := by
  have Hf := Lib.hid hf
  clear hf
  go_enter Try.func27, Try.ntmps27
  go_wp2_with fail
  refine wp_loop_rounds 6 ?_
  rw [rounds_succ]
  go_wp2_with fail
  refine (Hf.out 0 _ (by omega) ?_).mono ?_
  · repeat' (first | (with_reducible exact Below.refl _ _) | (with_reducible refine below_dn _ ?_) | (with_reducible refine Below.setCell ?_ ?_ _) | (with_reducible refine Below.alloc ?_ ?_ _) | go_size)
  rintro e w' ⟨rfl, n0, rfl⟩
  go_wp2_with fail
  rw [rounds_succ]
  go_wp2_with fail
  refine (Hf.out 1 _ (by omega) ?_).mono ?_
  · repeat' (first | (with_reducible exact Below.refl _ _) | (with_reducible refine below_dn _ ?_) | (with_reducible refine Below.setCell ?_ ?_ _) | (with_reducible refine Below.alloc ?_ ?_ _) | go_size)
  rintro e w' ⟨rfl, n1, rfl⟩
  go_wp2_with fail
  rw [rounds_succ]
  go_wp2_with fail
  refine (Hf.out 2 _ (by omega) ?_).mono ?_
  · repeat' (first | (with_reducible exact Below.refl _ _) | (with_reducible refine below_dn _ ?_) | (with_reducible refine Below.setCell ?_ ?_ _) | (with_reducible refine Below.alloc ?_ ?_ _) | go_size)
  rintro e w' ⟨rfl, n2, rfl⟩
  go_wp2_with fail
  rw [rounds_succ]
  go_wp2_with fail
  refine (Hf.out 3 _ (by omega) ?_).mono ?_
  · repeat' (first | (with_reducible exact Below.refl _ _) | (with_reducible refine below_dn _ ?_) | (with_reducible refine Below.setCell ?_ ?_ _) | (with_reducible refine Below.alloc ?_ ?_ _) | go_size)
  rintro e w' ⟨rfl, n3, rfl⟩
  go_wp2_with fail
  rw [rounds_succ]
  go_wp2_with fail
  refine (Hf.out 4 _ (by omega) ?_).mono ?_
  · repeat' (first | (with_reducible exact Below.refl _ _) | (with_reducible refine below_dn _ ?_) | (with_reducible refine Below.setCell ?_ ?_ _) | (with_reducible refine Below.alloc ?_ ?_ _) | go_size)
  rintro e w' ⟨rfl, n4, rfl⟩
  go_wp2_with fail
  rw [rounds_succ]
  go_wp2_with fail
  go_returns
  refine ⟨rfl, ?_⟩
  repeat' (first | (with_reducible exact Below.refl _ _) | (with_reducible refine below_dn _ ?_) | (with_reducible refine Below.setCell ?_ ?_ _) | (with_reducible refine Below.alloc ?_ ?_ _) | go_size)

/-- The rows of the first n processes, and 0 behind them. -/
def pad (n : Nat) (f : Nat → Int) (p : Nat) : Int := if p < n then f p else 0

theorem rows_any (n : Nat) (hn : 1 ≤ n ∧ n ≤ 5) (K : Nat) (lb : Array Value) (f : Nat → Int) (w : World)
    (hK : ∀ args w, (callFunc K args).run Try.prog w = .ok (.enter K args) w)
    (hf : ∀ (p : Nat) W, p < n → Below w.heap.size w W → Calls Try.prog K (#[.int .i64 (p : Int)] ++ lb) W fun e W' => e = .returned (.int .i64 (f p)) ∧ ∃ n, W' = W.drewN n) :
    Calls Try.prog 27 #[.int .i64 (n : Int), .func (.func K) #[] lb] w
      fun e w' => e = .returned (.agg #[.int .i64 (n : Int), .int .i64 (pad n f 0), .int .i64 (pad n f 1), .int .i64 (pad n f 2), .int .i64 (pad n f 3), .int .i64 (pad n f 4)]) ∧ Below w.heap.size w w' := by
  obtain rfl | rfl | rfl | rfl | rfl : n = 1 ∨ n = 2 ∨ n = 3 ∨ n = 4 ∨ n = 5 := by omega
  · exact rows1_any K lb f w hK hf
  · exact rows2_any K lb f w hK hf
  · exact rows3_any K lb f w hK hf
  · exact rows4_any K lb f w hK hf
  · exact rows5_any K lb f w hK hf
end Go.Proofs.Ytokjdlljhloflaa.Gra
