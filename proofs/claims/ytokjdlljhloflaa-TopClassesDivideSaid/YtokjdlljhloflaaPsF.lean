/- Package procset and its specification: Choose, with its errors. -/
import Derived.Test.YtokjdlljhloflaaPsE
import Derived.WalkKit
import Derived.WalkSpells
import Derived.WalkLawsBesides
import Derived.Handy
import Derived.Deep.QuietTactic
import Derived.BigQuiet
import Derived.Outline
import Derived.Laws.BitsAllLaws
import Derived.IntWalk
import Derived.Lib.SmallJoins
import Derived.Lib.Hide
import Derived.Deep.DeepCutAuto
import Derived.LoopTactic
import Derived.Deep.RegionWith
namespace Go.Proofs.Ytokjdlljhloflaa.Ps
set_option linter.unusedVariables false
set_option linter.unusedSimpArgs false
open Go.RowKit

/-- What of the first p of a list has k elements. -/
def chp (k : Int) (l : List Nat) (p : Nat) : List Nat := (l.take p).filter fun x => ((num x : Nat) : Int) == k
theorem chp_yes {k : Int} {l : List Nat} {p : Nat} (h : p < l.length) (e : (((num l[p] : Nat) : Int) == k) = true) : chp k l (p + 1) = chp k l p ++ [l[p]] := by
  unfold chp; rw [List.take_succ_eq_append_getElem h, List.filter_append]; simp [List.filter_cons, e]
theorem chp_no {k : Int} {l : List Nat} {p : Nat} (h : p < l.length) (e : (((num l[p] : Nat) : Int) == k) = false) : chp k l (p + 1) = chp k l p := by
  unfold chp; rw [List.take_succ_eq_append_getElem h, List.filter_append]; simp [List.filter_cons, e]
theorem chp_le (k : Int) (l : List Nat) (p : Nat) : (chp k l p).length ≤ l.length := by
  unfold chp
  exact Nat.le_trans (List.length_filter_le _ _) (List.length_take_le' ..)

end Go.Proofs.Ytokjdlljhloflaa.Ps
