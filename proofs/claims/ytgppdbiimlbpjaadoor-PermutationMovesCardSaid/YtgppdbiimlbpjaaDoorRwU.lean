/- Compositions, inverses and inversions in plain numbers. -/
import Derived.Test.YtgppdbiimlbpjaaDoorRwQ
import Derived.WalkKit
import Derived.WalkSpells
import Derived.WalkLawsBesides
import Derived.Handy
import Derived.Deep.QuietTactic
import Derived.BigQuiet
import Derived.Outline
import Derived.Laws.BitsAllLaws
import Derived.IntWalk
import Derived.Lib.SmallJoins
import Derived.Lib.Hide
import Derived.Deep.DeepCutAuto
import Derived.LoopTactic
import Derived.Deep.RegionWith
import Derived.Laws.CopyOwn
import Derived.Maps.OwnOps
import Derived.Maps.OwnSet
import Derived.Laws.OwnMore
import Derived.Maps.AppendAt
import Derived.Test.YtgppdbiimlbpjaaDoorShelF
import Derived.RangeFuncNested
import Derived.RangeFuncBound
import Derived.RangeFuncCalls
import Derived.RangeFuncLeaves
import Derived.RangeFuncBox
import Derived.RangeFuncFrom
import Derived.Shelf.Abstract
import Derived.Shelf.RegionOpen
import Derived.OwnWalkIn
import Derived.TacticsInMore
import Derived.LoopNIn
import Derived.LoopIn
namespace Go.Proofs.YtgppdbiimlbpjaaDoor
set_option linter.unusedVariables false
set_option linter.unusedSimpArgs false
open Go.RowKit

theorem good_comp {n : Nat} {a b : Nat → Nat} (ha : Good n a) (hb : Good n b) : Good n (fun i => a (b i)) := ⟨ha.lo, ha.hi, fun p hp => ha.perm.lt _ (hb.perm.lt p hp), fun p q hp hq e => hb.perm.inj p q hp hq (ha.perm.inj _ _ (hb.perm.lt p hp) (hb.perm.lt q hq) e)⟩
theorem good_id {n : Nat} (h1 : 1 ≤ n) (h5 : n ≤ 5) : Good n (fun i => i) := ⟨h1, h5, fun p hp => hp, fun p q _ _ e => e⟩
def bk (n : Nat) (a : Nat → Nat) : Nat → Nat := fun i => (sct a (zf fun i => i) n i).toNat
theorem bk_fin : ∀ n : Fin 6, ∀ l ∈ pl n.val, ∀ i, i < n.val → sct (fun_ l) (zf fun i => i) n.val i = zf (bk n.val (fun_ l)) i ∧ bk n.val (fun_ l) i < n.val ∧ bk n.val (fun_ l) (fun_ l i) = i ∧ fun_ l (bk n.val (fun_ l) i) = i := by decide +kernel
theorem bk_of {n : Nat} (h5 : n ≤ 5) {l : List Nat} (h : l ∈ pl n) : ∀ i, i < n → sct (fun_ l) (zf fun i => i) n i = zf (bk n (fun_ l)) i ∧ bk n (fun_ l) i < n ∧ bk n (fun_ l) (fun_ l i) = i ∧ fun_ l (bk n (fun_ l) i) = i := bk_fin ⟨n, by omega⟩ l h
theorem odd_fin : ∀ n : Fin 6, ∀ l ∈ pl n.val, ∀ m ∈ pl n.val, oall n.val (fun i => fun_ l (fun_ m i)) n.val = (oall n.val (fun_ l) n.val != oall n.val (fun_ m) n.val) := by decide +kernel
theorem odd_mul {n : Nat} (h5 : n ≤ 5) {l m : List Nat} (h : l ∈ pl n) (h' : m ∈ pl n) : oall n (fun i => fun_ l (fun_ m i)) n = (oall n (fun_ l) n != oall n (fun_ m) n) := odd_fin ⟨n, by omega⟩ l h m h'

end Go.Proofs.YtgppdbiimlbpjaaDoor
