/- The specification's functions on well-formed graphs: products, reversed and renamed graphs, unions. -/
import Derived.Test.YtacnhklhimogkaaDoorGcC
import Derived.Test.YtacnhklhimogkaaDoorGcB
import Derived.Test.YtacnhklhimogkaaDoorGrN
import Derived.Test.YtacnhklhimogkaaDoorPmA
import Derived.Test.YtacnhklhimogkaaDoorPmM
import Derived.Test.YtacnhklhimogkaaDoorPmD
import Derived.Test.YtacnhklhimogkaaDoorGrR
import Derived.Test.YtacnhklhimogkaaDoorTb
import Derived.LoopTactic
import Derived.Deep.RegionWith
import Derived.WalkKit
import Derived.WalkSpells
import Derived.WalkLawsBesides
import Derived.Handy
import Derived.Deep.QuietTactic
import Derived.BigQuiet
import Derived.Outline
import Derived.Laws.BitsAllLaws
import Derived.IntWalk
import Derived.Lib.SmallJoins
import Derived.Lib.Hide
namespace Go.Proofs.YtacnhklhimogkaaDoor
set_option linter.unusedVariables false
set_option linter.unusedSimpArgs false
open Go.RowKit

theorem rcol_bit {a : Nat → Nat} {p m n : Nat} (hn : n ≤ 5) (hm : m < n) (h : a m / 2 ^ p % 2 = 1) : bits .or .i64 ((rcol a p m : Nat) : Int) ((2 ^ m : Nat) : Int) = ((rcol a p (m + 1) : Nat) : Int) := by
  have := rcol_in (a := a) (p := p) hn hm
  rw [h, Nat.one_mul] at this
  exact this
theorem rcol_out {a : Nat → Nat} {p m : Nat} (h : ¬ a m / 2 ^ p % 2 = 1) : rcol a p (m + 1) = rcol a p m := by
  have h0 : a m / 2 ^ p % 2 = 0 := by have := Nat.mod_lt (a m / 2 ^ p) (show 0 < 2 by omega); omega
  show rcol a p m ||| (a m / 2 ^ p % 2 * 2 ^ m) = _
  rw [h0]; simp

/-- Rows of a, those before m united with those of b. -/
def orr (a b : Nat → Nat) (m i : Nat) : Nat := if i < m then a i ||| b i else a i
theorem orr_set (a b : Nat → Nat) (m : Nat) : (fun i => if i = m then a m ||| b m else orr a b m i) = orr a b (m + 1) := by
  funext i
  unfold orr
  by_cases h : i = m
  · subst h; simp
  · by_cases h2 : i < m
    · simp [h, h2, Nat.lt_succ_of_lt h2]
    · have h3 : ¬ i < m + 1 := by omega
      simp [h, h2, h3]

end Go.Proofs.YtacnhklhimogkaaDoor
