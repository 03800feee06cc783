/- The specification's pivot. -/
import Derived.Test.YtbefkngeffpokaaDoorMxH
import Derived.WalkKit
import Derived.WalkSpells
import Derived.WalkLawsBesides
import Derived.Handy
import Derived.Deep.QuietTactic
import Derived.BigQuiet
import Derived.Outline
import Derived.Laws.BitsAllLaws
import Derived.IntWalk
import Derived.Lib.SmallJoins
import Derived.Lib.Hide
import Derived.Deep.DeepCutAuto
import Derived.LoopTactic
import Derived.Deep.RegionWith
import Derived.Laws.CopyOwn
import Derived.Maps.OwnOps
import Derived.Maps.OwnSet
import Derived.Laws.OwnMore
import Derived.Maps.AppendAt
import Derived.RangeFuncNested
import Derived.RangeFuncBound
import Derived.RangeFuncCalls
import Derived.RangeFuncLeaves
import Derived.RangeFuncBox
import Derived.RangeFuncFrom
import Derived.Shelf.Abstract
import Derived.Shelf.RegionOpen
import Derived.OwnWalkIn
import Derived.TacticsInMore
import Derived.LoopNIn
import Derived.LoopIn
import Derived.Deep.RegionHeld3
import Derived.RegionTactic
import Derived.ChangeAlike
namespace Go.Proofs.YtbefkngeffpokaaDoor
set_option linter.unusedVariables false
set_option linter.unusedSimpArgs false
open Go.RowKit

set_option maxHeartbeats 2000000 in
theorem pivot_any (C K : Nat) (hC : C ≤ 1000000) (hK : K ≤ 1000000) (r : Nat → Nat) (f c : Nat) (hc : c < C) (hf : f ≤ K) (res : Int) (hres : (res = -1 ∧ ∀ i, f ≤ i → i < K → (r i).testBit c = false) ∨ (∃ k, res = ((k : Nat) : Int) ∧ f ≤ k ∧ k < K ∧ (r k).testBit c = true ∧ ∀ i, f ≤ i → i < k → (r i).testBit c = false)) (o : Option Addr) (cap : Nat) (w : World) (hM : Mx w o K C r) :
    Calls Tryd.prog 70 #[.slice o K cap, .int .i64 (f : Int), .int .i64 (c : Int)] w fun e w' => e = .returned (.int .i64 res) ∧ w = w' := by
  have HR := Lib.hid hres
  have HM := Lib.hid hM
  clear hres hM
  go_enter Tryd.func70, Tryd.ntmps70
  go_wp2_with fail
  go_loopw [7] (fun j wr => ∃ i : Nat, f ≤ i ∧ i ≤ K ∧ j = .int .i64 (i : Int) ∧ (∀ q, f ≤ q → q < i → (r q).testBit c = false) ∧ wr = w) (fun j _ => K - (intOf j).toNat)
  case atStart => exact ⟨f, by omega, by omega, by first | trivial | rfl, fun q h1 h2 => absurd h1 (by omega), rfl⟩
  case round =>
    obtain ⟨i, hfi, hi, rfl, hlow, rfl⟩ := hrel
    have HLow := Lib.hid hlow
    have HFi := Lib.hid hfi
    by_cases hlt : i < K
    · have hi1 : (i : Int) < (K : Int) := by omega
      obtain ⟨bM, oM, oc, cpc, rfl, hbM, e1, l1⟩ := HM.out.at_ hlt
      have hha := has_mem (el C (r i)) (by have := el_len C (r i); omega) c oc cpc _ l1
      have hdec : decide (c ∈ el C (r i)) = (r i).testBit c := by
        rw [Bool.eq_iff_iff, decide_eq_true_iff, el_mem]
        exact ⟨fun h => h.2, fun h => ⟨hc, h⟩⟩
      rw [hdec] at hha
      obtain ⟨q, hq⟩ : ∃ q, (r i).testBit c = q := ⟨_, rfl⟩
      rw [hq] at hha
      obtain ⟨n1, hn1⟩ : ∃ n, (el C (r i)).length = n := ⟨_, rfl⟩
      rw [hn1] at hha e1
      have HHa := Lib.hid hha
      have HQ := Lib.hid hq
      clear l1 hha hdec hq hn1 hlow hfi
      cases q with
      | true =>
        have hres : res = (i : Int) := by
          rcases HR.out with ⟨_, h2⟩ | ⟨k, h1, h2, h3, h4, h5⟩
          · have := h2 i HFi.out hlt
            rw [HQ.out] at this
            cases this
          · rcases Nat.lt_trichotomy i k with h | h | h
            · have := h5 i HFi.out h
              rw [HQ.out] at this
              cases this
            · rw [h1, h]
            · have := HLow.out k h2 h
              rw [h4] at this
              cases this
        have HRes := Lib.hid hres
        clear hres
        go_wp2_with fail
        refine HHa.out.mono ?_
        rintro e w' ⟨rfl, rfl⟩
        go_wp2_with fail
        go_ret
        exact ⟨by rw [HRes.out]; rfl, rfl⟩
      | false =>
        go_wp2_with fail
        refine HHa.out.mono ?_
        rintro e w' ⟨rfl, rfl⟩
        go_wp2_with fail
        go_roundw
        case rel =>
          refine ⟨i + 1, by have := HFi.out; omega, by omega, by go_num, fun q h1 h2 => ?_, by first | trivial | rfl⟩
          by_cases e : q = i
          · rw [e]; exact HQ.out
          · exact HLow.out q h1 (by omega)
        case measure => simp [intOf]; omega
    · have e : K = i := by omega
      subst e
      have hres : res = -1 := by
        rcases HR.out with ⟨h1, _⟩ | ⟨k, h1, h2, h3, h4, h5⟩
        · exact h1
        · have := HLow.out k h2 h3
          rw [h4] at this
          cases this
      have HRes := Lib.hid hres
      clear hres hlow hfi hlt
      go_wp2_with fail
      go_ret
      exact ⟨by rw [HRes.out]; rfl, rfl⟩

end Go.Proofs.YtbefkngeffpokaaDoor
