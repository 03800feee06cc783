/- Package partition and its specification: Finer. -/
import Derived.Test.YtokjdlljhloflaaPtS
import Derived.WalkKit
import Derived.WalkSpells
import Derived.WalkLawsBesides
import Derived.Handy
import Derived.Deep.QuietTactic
import Derived.BigQuiet
import Derived.Outline
import Derived.Laws.BitsAllLaws
import Derived.IntWalk
import Derived.Lib.SmallJoins
import Derived.Lib.Hide
import Derived.Deep.DeepCutAuto
import Derived.LoopTactic
import Derived.Deep.RegionWith
namespace Go.Proofs.Ytokjdlljhloflaa
set_option linter.unusedVariables false
set_option linter.unusedSimpArgs false
open Go.RowKit Part

/-- Whether f is finer than g. -/
def finb (n : Nat) (f g : Nat → Int) : Bool := decide (∀ i, i < n → ∀ j, j < n → f i = f j → g i = g j)
theorem finb_yes {n : Nat} {f g : Nat → Int} (hf : Good n f) (h : ∀ j, j < n → g j = g (fst (nat f) j)) : finb n f g = true := by
  refine decide_eq_true fun i hi j hj e => ?_
  rw [h i hi, h j hj, fst_eq hf.2.2 hi hj (show (f i).toNat = (f j).toNat by rw [e])]
theorem finb_no {n : Nat} {f g : Nat → Int} (hf : Good n f) {i : Nat} (hi : i < n) (h : g i ≠ g (fst (nat f) i)) : finb n f g = false := by
  refine decide_eq_false fun H => h ?_
  have h1 := fst_of hf.2.2 hi
  have h2 := hf.2.1 i hi
  have h3 := hf.2.1 (fst (nat f) i) (by omega)
  have h4 : (f (fst (nat f) i)).toNat = (f i).toNat := h1.2.2
  exact H i hi _ (by omega) (by omega)

/-- What Finer has found up to place i. -/
def FIn (w : World) (f g : Nat → Int) (i : Nat) (v : Value) (V : World) : Prop :=
  Row V w.heap.size v ((lst (nat f) i).map g) ∧ (∀ j, j < i → g j = g (fst (nat f) j)) ∧ Below w.heap.size w V

end Go.Proofs.Ytokjdlljhloflaa
