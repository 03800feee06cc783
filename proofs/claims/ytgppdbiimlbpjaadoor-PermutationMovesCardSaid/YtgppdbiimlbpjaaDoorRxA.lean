/- The specification's Few: some bool. -/
import Derived.Test.YtgppdbiimlbpjaaDoorRwY
import Derived.WalkKit
import Derived.WalkSpells
import Derived.WalkLawsBesides
import Derived.Handy
import Derived.Deep.QuietTactic
import Derived.BigQuiet
import Derived.Outline
import Derived.Laws.BitsAllLaws
import Derived.IntWalk
import Derived.Lib.SmallJoins
import Derived.Lib.Hide
import Derived.Deep.DeepCutAuto
import Derived.LoopTactic
import Derived.Deep.RegionWith
import Derived.Laws.CopyOwn
import Derived.Maps.OwnOps
import Derived.Maps.OwnSet
import Derived.Laws.OwnMore
import Derived.Maps.AppendAt
import Derived.Test.YtgppdbiimlbpjaaDoorShelF
import Derived.RangeFuncNested
import Derived.RangeFuncBound
import Derived.RangeFuncCalls
import Derived.RangeFuncLeaves
import Derived.RangeFuncBox
import Derived.RangeFuncFrom
import Derived.Shelf.Abstract
import Derived.Shelf.RegionOpen
import Derived.OwnWalkIn
import Derived.TacticsInMore
import Derived.LoopNIn
import Derived.LoopIn
namespace Go.Proofs.YtgppdbiimlbpjaaDoor
set_option linter.unusedVariables false
set_option linter.unusedSimpArgs false
open Go.RowKit

/-- Some bool. -/
def SomeBool (e : Ending) : Prop := ∃ r, e = .returned (.bool r)
set_option maxHeartbeats 1000000 in
theorem few_any (K : Nat) (o : Option Addr) (cap : Nat) (oc : Nat → Option Addr) (nc cc : Nat → Nat) (w : World) (hL : 0 < K → ∃ b off, o = some ⟨b, off, none⟩ ∧ ∀ c, c < K → w.cell? ⟨b, off + c, none⟩ = some (.slice (oc c) (nc c) (cc c))) :
    Calls Tryd.prog 33 #[.slice o K cap] w fun e w' => SomeBool e ∧ w = w' := by
  have HL := Lib.hid hL
  clear hL
  go_enter Tryd.func33, Tryd.ntmps33
  go_wp2_with fail
  go_loopw [3] (fun j wr => ∃ c : Nat, c ≤ 41 ∧ c ≤ K ∧ j = .int .i64 (c : Int) ∧ wr = w) (fun j _ => 50 - (intOf j).toNat)
  case atStart => exact ⟨0, by omega, by omega, by first | trivial | rfl, by first | trivial | rfl⟩
  case round =>
    obtain ⟨c, h41, hc, rfl, rfl⟩ := hrel
    by_cases hlt : c < K
    · have hc1 : (c : Int) < (K : Int) := by omega
      have hc2 : decide (c < K) = true := decide_eq_true hlt
      by_cases h40 : c ≤ 40
      · have hc3 : (c : Int) ≤ 40 := by omega
        have hc4 : decide (c ≤ 40) = true := decide_eq_true h40
        obtain ⟨bS, oS, rfl, hcS⟩ := HL.out (by omega)
        have e1 := hcS c hlt
        obtain ⟨oo, ho⟩ : ∃ x, oc c = x := ⟨_, rfl⟩
        obtain ⟨n1, hm⟩ : ∃ x, nc c = x := ⟨_, rfl⟩
        obtain ⟨kk, hk⟩ : ∃ x, cc c = x := ⟨_, rfl⟩
        rw [ho, hm, hk] at e1
        clear hcS ho hm hk
        by_cases h60 : 60 < n1
        · have h61 : (60 : Int) < (n1 : Int) := by omega
          go_wp2_with fail
          go_ret
          exact ⟨⟨_, rfl⟩, rfl⟩
        · have h61 : ¬ (60 : Int) < (n1 : Int) := by omega
          go_wp2_with fail
          go_roundw
          case rel => exact ⟨c + 1, by omega, by omega, by go_num, by first | trivial | rfl⟩
          case measure => simp [intOf]; omega
      · have hc3 : ¬ (c : Int) ≤ 40 := by omega
        have hc4 : decide (c ≤ 40) = false := decide_eq_false h40
        have hk1 : ¬ (K : Int) ≤ 40 := by omega
        go_wp2_with fail
        go_ret
        exact ⟨⟨_, rfl⟩, rfl⟩
    · have e : c = K := by omega
      subst e
      have hc2 : decide (c < c) = false := by simp
      have hcI : ¬ (c : Int) < (c : Int) := by omega
      by_cases h40 : c ≤ 40
      · have hc3 : (c : Int) ≤ 40 := by omega
        go_wp2_with fail
        go_ret
        exact ⟨⟨_, rfl⟩, rfl⟩
      · have hc3 : ¬ (c : Int) ≤ 40 := by omega
        go_wp2_with fail
        go_ret
        exact ⟨⟨_, rfl⟩, rfl⟩

end Go.Proofs.YtgppdbiimlbpjaaDoor
