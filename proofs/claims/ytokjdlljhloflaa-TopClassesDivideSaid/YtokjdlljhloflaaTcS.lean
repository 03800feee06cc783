/- Masks below 32: and, and not. -/
import Derived.Test.YtokjdlljhloflaaTcR
import Derived.WalkKit
import Derived.WalkSpells
import Derived.WalkLawsBesides
import Derived.Handy
import Derived.Deep.QuietTactic
import Derived.BigQuiet
import Derived.Outline
import Derived.Laws.BitsAllLaws
import Derived.IntWalk
import Derived.Lib.SmallJoins
import Derived.Lib.Hide
import Derived.Deep.DeepCutAuto
import Derived.LoopTactic
import Derived.Deep.RegionWith
namespace Go.Proofs.Ytokjdlljhloflaa
set_option linter.unusedVariables false
set_option linter.unusedSimpArgs false
open Go.RowKit Part


theorem and_fin : ∀ a b : Fin 32, bits .and .i64 (a.val : Int) (b.val : Int) = ((a.val &&& b.val : Nat) : Int) := by decide +kernel
theorem andnot_fin : ∀ a b : Fin 32, bits .andNot .i64 (a.val : Int) (b.val : Int) = ((a.val ^^^ (a.val &&& b.val) : Nat) : Int) := by decide +kernel
theorem and_32 {a b : Nat} (ha : a < 32) (hb : b < 32) : bits .and .i64 (a : Int) (b : Int) = ((a &&& b : Nat) : Int) := and_fin ⟨a, ha⟩ ⟨b, hb⟩
theorem andnot_32 {a b : Nat} (ha : a < 32) (hb : b < 32) : bits .andNot .i64 (a : Int) (b : Int) = ((a ^^^ (a &&& b) : Nat) : Int) := andnot_fin ⟨a, ha⟩ ⟨b, hb⟩

end Go.Proofs.Ytokjdlljhloflaa
