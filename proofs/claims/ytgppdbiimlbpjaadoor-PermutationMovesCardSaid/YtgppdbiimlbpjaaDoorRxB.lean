/- The specification's has. -/
import Derived.Test.YtgppdbiimlbpjaaDoorRxA
import Derived.WalkKit
import Derived.WalkSpells
import Derived.WalkLawsBesides
import Derived.Handy
import Derived.Deep.QuietTactic
import Derived.BigQuiet
import Derived.Outline
import Derived.Laws.BitsAllLaws
import Derived.IntWalk
import Derived.Lib.SmallJoins
import Derived.Lib.Hide
import Derived.Deep.DeepCutAuto
import Derived.LoopTactic
import Derived.Deep.RegionWith
import Derived.Laws.CopyOwn
import Derived.Maps.OwnOps
import Derived.Maps.OwnSet
import Derived.Laws.OwnMore
import Derived.Maps.AppendAt
import Derived.Test.YtgppdbiimlbpjaaDoorShelF
import Derived.RangeFuncNested
import Derived.RangeFuncBound
import Derived.RangeFuncCalls
import Derived.RangeFuncLeaves
import Derived.RangeFuncBox
import Derived.RangeFuncFrom
import Derived.Shelf.Abstract
import Derived.Shelf.RegionOpen
import Derived.OwnWalkIn
import Derived.TacticsInMore
import Derived.LoopNIn
import Derived.LoopIn
namespace Go.Proofs.YtgppdbiimlbpjaaDoor
set_option linter.unusedVariables false
set_option linter.unusedSimpArgs false
open Go.RowKit

def hasb (n : Nat) (f : Nat → Int) (v : Int) : Bool := decide (∃ c, c < n ∧ f c = v)
set_option maxHeartbeats 1000000 in
theorem has_any (n : Nat) (hn : n ≤ 1000000) (f : Nat → Int) (v : Int) (o : Option Addr) (cap : Nat) (w : World) (hL : Lz w o n f) :
    Calls Tryd.prog 81 #[.slice o n cap, .int .i64 v] w fun e w' => e = .returned (.bool (hasb n f v)) ∧ w = w' := by
  have HL := Lib.hid hL
  obtain ⟨r, hr⟩ : ∃ r, hasb n f v = r := ⟨_, rfl⟩
  have HR := Lib.hid hr
  rw [hr]
  clear hL hr
  go_enter Tryd.func81, Tryd.ntmps81
  go_wp2_with fail
  go_loopw [5] (fun j wr => ∃ c : Nat, c ≤ n ∧ j = .int .i64 (c : Int) ∧ (∀ d, d < c → f d ≠ v) ∧ wr = w) (fun j _ => n - (intOf j).toNat)
  case atStart => exact ⟨0, by omega, by first | trivial | rfl, fun d h => absurd h (Nat.not_lt_zero _), by first | trivial | rfl⟩
  case round =>
    obtain ⟨c, hc, rfl, hno, rfl⟩ := hrel
    have HNo := Lib.hid hno
    clear hno
    by_cases hlt : c < n
    · obtain ⟨bS, oS, rfl, hbS, hcS⟩ := HL.out (by omega)
      have e2 := hcS c hlt
      obtain ⟨q, hq⟩ : ∃ q, f c = q := ⟨_, rfl⟩
      rw [hq] at e2
      have HQ := Lib.hid hq
      have hc1 : (c : Int) < (n : Int) := by omega
      clear hcS hq
      by_cases hqv : q = v
      · subst hqv
        have h0 : r = true := by rw [← HR.out]; exact decide_eq_true ⟨c, hlt, HQ.out⟩
        subst h0
        go_wp2_with fail
        go_ret
        exact ⟨rfl, rfl⟩
      · have g1 : (q == v) = false := by rw [beq_eq_false_iff_ne]; exact hqv
        have HQv := Lib.hid hqv
        clear hqv
        go_wp2_with fail
        go_roundw
        case rel =>
          refine ⟨c + 1, by omega, by go_num, fun d hd => ?_, by first | trivial | rfl⟩
          by_cases e : d = c
          · subst e; rw [HQ.out]; exact HQv.out
          · exact HNo.out d (by omega)
        case measure => simp [intOf]; omega
    · have e : c = n := by omega
      subst e
      have h0 : r = false := by rw [← HR.out]; exact decide_eq_false fun ⟨d, hd, h⟩ => HNo.out d hd h
      subst h0
      clear hlt
      go_wp2_with fail
      go_ret
      exact ⟨rfl, rfl⟩

end Go.Proofs.YtgppdbiimlbpjaaDoor
