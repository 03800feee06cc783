/- Trailing zeros of small numbers, by the table of math/bits. -/
import Derived.Test.YtokjdlljhloflaaRows
import Derived.Test.YtokjdlljhloflaaGrB
import Derived.WalkKit
import Derived.WalkSpells
import Derived.WalkLawsBesides
import Derived.Handy
import Derived.Deep.QuietTactic
import Derived.BigQuiet
import Derived.Outline
import Derived.Laws.BitsAllLaws
import Derived.IntWalk
import Derived.Lib.SmallJoins
import Derived.Lib.Hide
import Derived.Deep.DeepCutAuto
import Derived.LoopTactic
namespace Go.Proofs.Ytokjdlljhloflaa.Ps
set_option linter.unusedVariables false
set_option linter.unusedSimpArgs false
open Go.RowKit

/-- What is read of the table of math/bits: the places of the first five powers of two. -/
structure Tab (w : World) : Prop where
  pos : 1 < w.heap.size
  c0 : w.cell? ⟨1, 0, none⟩ = some (.int .u8 0)
  c1 : w.cell? ⟨1, 1, none⟩ = some (.int .u8 1)
  c2 : w.cell? ⟨1, 3, none⟩ = some (.int .u8 2)
  c3 : w.cell? ⟨1, 7, none⟩ = some (.int .u8 3)
  c4 : w.cell? ⟨1, 15, none⟩ = some (.int .u8 4)
theorem Tab.below {w W : World} {B : Nat} (h : Tab w) (hb : Below B w W) (hB : 1 < B) : Tab W :=
  ⟨Nat.lt_of_lt_of_le h.pos hb.size, (hb.cell (p := ⟨1, 0, none⟩) hB).trans h.c0, (hb.cell (p := ⟨1, 1, none⟩) hB).trans h.c1, (hb.cell (p := ⟨1, 3, none⟩) hB).trans h.c2, (hb.cell (p := ⟨1, 7, none⟩) hB).trans h.c3, (hb.cell (p := ⟨1, 15, none⟩) hB).trans h.c4⟩
/-- The place of the lowest bit, of numbers below 32. -/
def tz (y : Nat) : Nat := if y % 2 = 1 then 0 else if y / 2 % 2 = 1 then 1 else if y / 4 % 2 = 1 then 2 else if y / 8 % 2 = 1 then 3 else 4

theorem tz_lt (y : Nat) : tz y < 5 := by
  unfold tz
  split; omega
  split; omega
  split; omega
  split <;> omega
def tzix (k : Nat) : Nat := if k = 0 then 0 else if k = 1 then 1 else if k = 2 then 3 else if k = 3 then 7 else 15
theorem tz_ix (y : Nat) (h0 : 1 ≤ y) (h : y < 32) : IntKind.u64.wrap (bits BinOp.and IntKind.u64 (y : Int) (IntKind.u64.wrap (-(y : Int))) * 285870213051353865) / 288230376151711744 = (tzix (tz y) : Int) := by
  obtain rfl | rfl | rfl | rfl | rfl | rfl | rfl | rfl | rfl | rfl | rfl | rfl | rfl | rfl | rfl | rfl | rfl | rfl | rfl | rfl | rfl | rfl | rfl | rfl | rfl | rfl | rfl | rfl | rfl | rfl | rfl : y = 1 ∨ y = 2 ∨ y = 3 ∨ y = 4 ∨ y = 5 ∨ y = 6 ∨ y = 7 ∨ y = 8 ∨ y = 9 ∨ y = 10 ∨ y = 11 ∨ y = 12 ∨ y = 13 ∨ y = 14 ∨ y = 15 ∨ y = 16 ∨ y = 17 ∨ y = 18 ∨ y = 19 ∨ y = 20 ∨ y = 21 ∨ y = 22 ∨ y = 23 ∨ y = 24 ∨ y = 25 ∨ y = 26 ∨ y = 27 ∨ y = 28 ∨ y = 29 ∨ y = 30 ∨ y = 31 := by omega
  all_goals decide +kernel
theorem Tab.at_ {w : World} (h : Tab w) (k : Nat) (hk : k < 5) : w.cell? ⟨1, tzix k, none⟩ = some (.int .u8 (k : Int)) := by
  obtain rfl | rfl | rfl | rfl | rfl : k = 0 ∨ k = 1 ∨ k = 2 ∨ k = 3 ∨ k = 4 := by omega
  exact h.c0
  exact h.c1
  exact h.c2
  exact h.c3
  exact h.c4
theorem tzix_lt (k : Nat) : tzix k < 64 := by unfold tzix; split; omega; split; omega; split; omega; split <;> omega

end Go.Proofs.Ytokjdlljhloflaa.Ps
