/- The small functions on sets that the graph laws call: what each returns, for all arguments in the range named by its premises. -/
import Derived.Test.YtienbebbgioccaaDoorRows
import Derived.WalkKit
import Derived.WalkSpells
import Derived.WalkLawsBesides
import Derived.Handy
import Derived.Deep.QuietTactic
import Derived.BigQuiet
import Derived.Outline
import Derived.Laws.BitsAllLaws
import Derived.IntWalk
import Derived.Lib.SmallJoins
import Derived.Lib.Hide
namespace Go.Proofs.YtienbebbgioccaaDoor
set_option linter.unusedVariables false
set_option linter.unusedSimpArgs false
open Go.RowKit


set_option maxHeartbeats 400000 in
theorem power_any (p : Nat) (hp : p ≤ 5) (w : World) :
    Calls Tryd.prog 43 #[.int .i64 (p : Int)] w fun e w' => e = .returned (.int .i64 ((2 ^ p : Nat) : Int)) ∧ w = w' := by
  obtain rfl | rfl | rfl | rfl | rfl | rfl : p = 0 ∨ p = 1 ∨ p = 2 ∨ p = 3 ∨ p = 4 ∨ p = 5 := by omega
  all_goals
    go_enter Tryd.func43, Tryd.ntmps43
    go_wp2
    go_rounds 7
    go_ret
    exact ⟨rfl, rfl⟩

set_option maxHeartbeats 400000 in
theorem full_any (p : Nat) (hp : p ≤ 5) (w : World) :
    Calls Tryd.prog 37 #[.int .i64 (p : Int)] w fun e w' => e = .returned (.int .i64 ((2 ^ p : Nat) - 1 : Int)) ∧ w = w' := by
  have h1 : (2 : Nat) ^ p ≤ 2 ^ 5 := Nat.pow_le_pow_right (by omega) hp
  have h2 : 0 < (2 : Nat) ^ p := Nat.pow_pos (by omega)
  generalize hq : (2 : Nat) ^ p = q at h1 h2
  have hc := power_any p hp
  rw [hq] at hc
  have Hc := Lib.hid hc
  clear hc hq
  go_enter Tryd.func37, Tryd.ntmps37
  go_wp2_with fail
  refine (Hc.out _).mono ?_
  rintro e w' ⟨rfl, rfl⟩
  go_wp2_with fail
  go_ret
  exact ⟨rfl, rfl⟩

set_option maxHeartbeats 400000 in
theorem has_any (p : Nat) (hp : p ≤ 5) (x : Nat) (hx : x < 4294967296) (w : World) :
    Calls Tryd.prog 44 #[.int .i64 (x : Int), .int .i64 (p : Int)] w fun e w' => e = .returned (.bool (decide (x / 2 ^ p % 2 = 1))) ∧ w = w' := by
  have h2 : 0 < (2 : Nat) ^ p := Nat.pow_pos (by omega)
  have h3 : x / 2 ^ p ≤ x := Nat.div_le_self _ _
  have hc := power_any p hp
  generalize hq : (2 : Nat) ^ p = q at *
  have h4 : (0 : Int) ≤ (x : Int) / (q : Int) := Int.ediv_nonneg (by omega) (by omega)
  have h6 := Int.ediv_le_self (q : Int) (show (0 : Int) ≤ (x : Int) by omega)
  have h5 : (x : Int) / (q : Int) ≤ 4294967295 := by omega
  clear h6
  have Hc := Lib.hid hc
  clear hc hq
  go_enter Tryd.func44, Tryd.ntmps44
  go_wp2_with fail
  refine (Hc.out _).mono ?_
  rintro e w' ⟨rfl, rfl⟩
  go_wp2_with fail
  go_ret
  refine ⟨?_, rfl⟩
  show Ending.returned (Value.bool ((x : Int) / (q : Int) % 2 == 1)) = _
  have h7 : ((x : Int) / (q : Int) % 2 == 1) = decide (x / q % 2 = 1) := by
    rw [← Int.natCast_ediv x q]
    generalize x / q = d
    rw [Bool.eq_iff_iff]
    simp
    omega
  rw [h7]

set_option maxHeartbeats 400000 in
theorem pcheck_any (n : Nat) (hn : 1 ≤ n ∧ n ≤ 5) (x : Nat) (hx : x < 2 ^ n) (w : World) :
    Calls Tryd.prog 17 #[.int .i64 (n : Int), .int .i64 (x : Int)] w fun e w' => e = .returned (.int .i64 0) ∧ w = w' := by
  obtain rfl | rfl | rfl | rfl | rfl : n = 1 ∨ n = 2 ∨ n = 3 ∨ n = 4 ∨ n = 5 := by omega
  all_goals
    simp only [Nat.reducePow] at hx
    go_enter Tryd.func17, Tryd.ntmps17
    go_wp2
    go_ret
    exact ⟨rfl, rfl⟩
end Go.Proofs.YtienbebbgioccaaDoor
