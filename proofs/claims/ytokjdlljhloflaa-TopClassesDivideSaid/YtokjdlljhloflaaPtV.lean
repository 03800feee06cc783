/- The specification: Labels, Cut. -/
import Derived.Test.YtokjdlljhloflaaPtU
import Derived.WalkKit
import Derived.WalkSpells
import Derived.WalkLawsBesides
import Derived.Handy
import Derived.Deep.QuietTactic
import Derived.BigQuiet
import Derived.Outline
import Derived.Laws.BitsAllLaws
import Derived.IntWalk
import Derived.Lib.SmallJoins
import Derived.Lib.Hide
import Derived.Deep.DeepCutAuto
import Derived.LoopTactic
import Derived.Deep.RegionWith
namespace Go.Proofs.Ytokjdlljhloflaa
set_option linter.unusedVariables false
set_option linter.unusedSimpArgs false
open Go.RowKit Part
theorem lsf_snoc (i : Nat) (f : Nat → Int) : lsf i f ++ [f i] = lsf (i + 1) f := by
  unfold lsf
  rw [List.range_succ, List.map_append]
  rfl
theorem mem_ds_ex {K : Type} [DecidableEq K] (κ : Nat → K) : ∀ {i : Nat} {x : K}, x ∈ ds κ i → ∃ k, k < i ∧ κ k = x
  | 0, x, h => by cases h
  | i + 1, x, h => by
    rw [ds_succ] at h
    split at h
    · obtain ⟨k, h1, h2⟩ := mem_ds_ex κ h
      exact ⟨k, by omega, h2⟩
    · rcases List.mem_append.1 h with h | h
      · obtain ⟨k, h1, h2⟩ := mem_ds_ex κ h
        exact ⟨k, by omega, h2⟩
      · exact ⟨i, by omega, (List.mem_singleton.1 h).symm⟩

end Go.Proofs.Ytokjdlljhloflaa
