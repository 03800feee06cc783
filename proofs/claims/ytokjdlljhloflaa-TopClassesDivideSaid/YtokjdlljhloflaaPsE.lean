/- Package procset and its specification: the subsets with a number of elements. -/
import Derived.Test.YtokjdlljhloflaaPsD
import Derived.WalkKit
import Derived.WalkSpells
import Derived.WalkLawsBesides
import Derived.Handy
import Derived.Deep.QuietTactic
import Derived.BigQuiet
import Derived.Outline
import Derived.Laws.BitsAllLaws
import Derived.IntWalk
import Derived.Lib.SmallJoins
import Derived.Lib.Hide
import Derived.Deep.DeepCutAuto
import Derived.LoopTactic
import Derived.Deep.RegionWith
import Derived.RangeFuncFrom
namespace Go.Proofs.Ytokjdlljhloflaa.Ps
set_option linter.unusedVariables false
set_option linter.unusedSimpArgs false
open Go.RowKit Go.Shelf
attribute [local go_sem] Oper.semAt_some

/-- The subsets with k elements. -/
def cho (S : Nat) (k : Int) : List Nat := (sub S 0).filter fun x => ((num x : Nat) : Int) == k
theorem sub_lt (S : Nat) (h : S < 32) : ∀ x ∈ sub S 0, x < 32 := by
  intro x hx
  unfold sub at hx
  have := List.mem_range'.1 (List.mem_filter.1 hx).1
  omega
/-- The subsets, each with its bound. -/
def subF (S : Nat) (h : S < 32) : List (Fin 32) := (sub S 0).pmap (fun x hx => ⟨x, hx⟩) (sub_lt S h)
theorem subF_val (S : Nat) (h : S < 32) : (subF S h).map Fin.val = sub S 0 := by
  unfold subF
  rw [List.map_pmap]
  simp
def choF (k : Int) (l : List (Fin 32)) : List Nat := (l.map Fin.val).filter fun x => ((num x : Nat) : Int) == k

theorem u64_small : ∀ x : Fin 32, IntKind.u64.wrap (x.val : Int) = (x.val : Int) := by decide +kernel
end Go.Proofs.Ytokjdlljhloflaa.Ps
