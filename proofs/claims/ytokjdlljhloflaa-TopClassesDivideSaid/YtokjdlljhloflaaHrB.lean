/- The small functions on sets that the graph laws call: what each returns, for all arguments in the range named by its premises. -/
import Derived.Test.YtokjdlljhloflaaRows
import Derived.WalkKit
import Derived.WalkSpells
import Derived.WalkLawsBesides
import Derived.Handy
import Derived.Deep.QuietTactic
import Derived.BigQuiet
import Derived.Outline
import Derived.Laws.BitsAllLaws
import Derived.IntWalk
import Derived.Lib.SmallJoins
import Derived.Lib.Hide
namespace Go.Proofs.Ytokjdlljhloflaa.Gra
open Go.RowKit


set_option maxHeartbeats 400000 in
theorem pcheck_any (n : Nat) (hn : 1 ≤ n ∧ n ≤ 5) (x : Nat) (hx : x < 2 ^ n) (w : World) :
    Calls Try.prog 18 #[.int .i64 (n : Int), .int .i64 (x : Int)] w fun e w' => e = .returned (.int .i64 0) ∧ w = w' := by
  obtain rfl | rfl | rfl | rfl | rfl : n = 1 ∨ n = 2 ∨ n = 3 ∨ n = 4 ∨ n = 5 := by omega
  all_goals
    simp only [Nat.reducePow] at hx
    go_enter Try.func18, Try.ntmps18
    go_wp2
    go_ret
    exact ⟨rfl, rfl⟩
end Go.Proofs.Ytokjdlljhloflaa.Gra
