/- The specification's leads. -/
import Derived.Test.YtbefkngeffpokaaDoorMxJ
import Derived.Test.YtbefkngeffpokaaDoorMxQ
import Derived.WalkKit
import Derived.WalkSpells
import Derived.WalkLawsBesides
import Derived.Handy
import Derived.Deep.QuietTactic
import Derived.BigQuiet
import Derived.Outline
import Derived.Laws.BitsAllLaws
import Derived.IntWalk
import Derived.Lib.SmallJoins
import Derived.Lib.Hide
import Derived.Deep.DeepCutAuto
import Derived.LoopTactic
import Derived.Deep.RegionWith
import Derived.Laws.CopyOwn
import Derived.Maps.OwnOps
import Derived.Maps.OwnSet
import Derived.Laws.OwnMore
import Derived.Maps.AppendAt
import Derived.RangeFuncNested
import Derived.RangeFuncBound
import Derived.RangeFuncCalls
import Derived.RangeFuncLeaves
import Derived.RangeFuncBox
import Derived.RangeFuncFrom
import Derived.Shelf.Abstract
import Derived.Shelf.RegionOpen
import Derived.OwnWalkIn
import Derived.TacticsInMore
import Derived.LoopNIn
import Derived.LoopIn
import Derived.Deep.RegionHeld3
import Derived.RegionTactic
import Derived.ChangeAlike
namespace Go.Proofs.YtbefkngeffpokaaDoor
set_option linter.unusedVariables false
set_option linter.unusedSimpArgs false
open Go.RowKit

/-- Whether a column leads one of the first k rows. -/
def ldc (C : Nat) (r : Nat → Nat) (k c : Nat) : Bool := decide (∃ i, i < k ∧ (el C (r i)).getD 0 0 = c)
set_option maxHeartbeats 2000000 in
theorem leads_any (C K : Nat) (hC : C ≤ 1000000) (hK : K ≤ 1000000) (r : Nat → Nat) (hne : ∀ i, i < K → 0 < (el C (r i)).length) (c : Nat) (hc : c < 1000000000) (D : Int) (o : Option Addr) (cap : Nat) (w : World) (hM : Mx w o K C r) :
    Calls Tryd.prog 71 #[mv D o K cap, .int .i64 (c : Int)] w fun e w' => e = .returned (.bool (ldc C r K c)) ∧ Below w.heap.size w w' := by
  have HB := Lib.hid (mbel w D o K cap)
  have HBx := Lib.hid (mbox w D o K cap)
  have HM := Lib.hid (hM.below (mbel w D o K cap))
  have HNe := Lib.hid hne
  obtain ⟨res, hres⟩ : ∃ b, ldc C r K c = b := ⟨_, rfl⟩
  rw [hres]
  have HR := Lib.hid hres
  unfold mv
  clear hM hne hres
  go_enter Tryd.func71, Tryd.ntmps71
  go_wp2_with fail
  obtain ⟨W, hW⟩ : ∃ W, w.alloc (.cells #[.int .i64 D, .slice o K cap] 24) = W := ⟨_, rfl⟩
  rw [hW] at HB HBx HM ⊢
  obtain ⟨S, hS⟩ : ∃ b, w.heap.size = b := ⟨_, rfl⟩
  rw [hS] at HBx ⊢
  have HS := Lib.hid hS
  clear hW hS
  go_loopw [5] (fun j wr => ∃ i : Nat, i ≤ K ∧ j = .int .i64 (i : Int) ∧ (∀ q, q < i → (el C (r q)).getD 0 0 ≠ c) ∧ wr = W) (fun j _ => K - (intOf j).toNat)
  case atStart => exact ⟨0, by omega, by first | trivial | rfl, fun q h1 => absurd h1 (by omega), by first | trivial | rfl⟩
  case round =>
    obtain ⟨i, hi, rfl, hlow, rfl⟩ := hrel
    have HLow := Lib.hid hlow
    have c1 := HBx.out.cell 1
    by_cases hlt : i < K
    · have hi1 : (i : Int) < (K : Int) := by omega
      obtain ⟨bM, oM, oc, cpc, rfl, hbM, e1, l1⟩ := HM.out.at_ hlt
      have hn0 := HNe.out i hlt
      obtain ⟨bl, ofs, rfl, hbl, hcc⟩ := l1 hn0
      have e2 := hcc 0 hn0
      obtain ⟨n1, hn1⟩ : ∃ n, (el C (r i)).length = n := ⟨_, rfl⟩
      rw [hn1] at e1 hn0
      have hn2 : (0 : Int) < (n1 : Int) := by omega
      obtain ⟨x, hx⟩ : ∃ x, (el C (r i)).getD 0 0 = x := ⟨_, rfl⟩
      have e3 := e2
      unfold lz at e3
      rw [hx, Nat.add_zero] at e3
      have HX := Lib.hid hx
      clear l1 hcc e2 hn1 hx hlow
      by_cases hxc : x = c
      · have hres : res = true := by
          rw [← HR.out]
          exact decide_eq_true ⟨i, hlt, by rw [HX.out, hxc]⟩
        have HRes := Lib.hid hres
        have g1 : ((x : Int) == (c : Int)) = true := by rw [hxc]; simp
        clear hres hxc
        go_wp2_with fail
        go_ret
        exact ⟨by rw [HRes.out]; rfl, HB.out⟩
      · have g1 : ((x : Int) == (c : Int)) = false := by rw [beq_eq_false_iff_ne]; omega
        have HXC := Lib.hid hxc
        clear hxc
        go_wp2_with fail
        go_roundw
        case rel =>
          refine ⟨i + 1, by omega, by go_num, fun q h1 => ?_, by first | trivial | rfl⟩
          by_cases e : q = i
          · rw [e, HX.out]; exact HXC.out
          · exact HLow.out q (by omega)
        case measure => simp [intOf]; omega
    · have e : K = i := by omega
      subst e
      have hres : res = false := by
        rw [← HR.out]
        refine decide_eq_false ?_
        rintro ⟨q, h1, h2⟩
        exact HLow.out q h1 h2
      have HRes := Lib.hid hres
      clear hres hlow hlt
      go_wp2_with fail
      go_ret
      exact ⟨by rw [HRes.out]; rfl, HB.out⟩

end Go.Proofs.YtbefkngeffpokaaDoor
