/- The specification's Verify. -/
import Derived.Test.YtbefkngeffpokaaDoorMxJ
import Derived.Test.YtbefkngeffpokaaDoorMxL
import Derived.WalkKit
import Derived.WalkSpells
import Derived.WalkLawsBesides
import Derived.Handy
import Derived.Deep.QuietTactic
import Derived.BigQuiet
import Derived.Outline
import Derived.Laws.BitsAllLaws
import Derived.IntWalk
import Derived.Lib.SmallJoins
import Derived.Lib.Hide
import Derived.Deep.DeepCutAuto
import Derived.LoopTactic
import Derived.Deep.RegionWith
import Derived.Laws.CopyOwn
import Derived.Maps.OwnOps
import Derived.Maps.OwnSet
import Derived.Laws.OwnMore
import Derived.Maps.AppendAt
import Derived.RangeFuncNested
import Derived.RangeFuncBound
import Derived.RangeFuncCalls
import Derived.RangeFuncLeaves
import Derived.RangeFuncBox
import Derived.RangeFuncFrom
import Derived.Shelf.Abstract
import Derived.Shelf.RegionOpen
import Derived.OwnWalkIn
import Derived.TacticsInMore
import Derived.LoopNIn
import Derived.LoopIn
import Derived.Deep.RegionHeld3
import Derived.RegionTactic
import Derived.ChangeAlike
namespace Go.Proofs.YtbefkngeffpokaaDoor
set_option linter.unusedVariables false
set_option linter.unusedSimpArgs false
open Go.RowKit

/-- What the verification of a refutation answers. -/
def vfy (C K : Nat) (r : Nat → Nat) (bb yy : Nat) : Int := if sumr r 0 (el K yy) % 2 ^ C = 0 ∧ odl yy (el K bb) = true then 0 else 18
theorem el_len0 (C x : Nat) : (el C x).length = 0 ↔ x % 2 ^ C = 0 := by
  rw [List.length_eq_zero_iff]
  have h : el C x = el C (x % 2 ^ C) := by
    unfold el
    refine List.filter_congr fun i hi => ?_
    rw [Nat.testBit_mod_two_pow, decide_eq_true (List.mem_range.1 hi), Bool.true_and]
  rw [h, el_nil (Nat.mod_lt _ (Nat.two_pow_pos _))]
set_option maxHeartbeats 2000000 in
theorem rverify_good (C K : Nat) (hC : C ≤ 31) (hK : K ≤ 31) (r : Nat → Nat) (bb yy : Nat) (o p q : Option Addr) (cap cp cq : Nat) (w : World) (hM : Mx w o K C r) (hL : Lz w p (el K bb).length (lz (el K bb))) (hL' : Lz w q (el K yy).length (lz (el K yy))) :
    Calls Tryd.prog 34 #[mv (C : Int) o K cap, .slice p (el K bb).length cp, .slice q (el K yy).length cq] w fun e w' => e = .returned (.int .i64 (vfy C K r bb yy)) ∧ Below w.heap.size w w' := by
  have hb0 := mbel w (C : Int) o K cap
  have H := Lib.hid (rcheck_mx C K (by omega) (by omega) r o cap _ (hM.below hb0))
  have HB := Lib.hid hb0
  have HBx := Lib.hid (mbox w (C : Int) o K cap)
  have hV1 := fun W (h : Below w.heap.size w W) => rvec_any (K : Int) (el K bb).length (by have := el_len K bb; omega) (lz (el K bb)) p cp W (hL.below h)
  rw [vcode_el] at hV1
  have hV2 := fun W (h : Below w.heap.size w W) => rvec_any (K : Int) (el K yy).length (by have := el_len K yy; omega) (lz (el K yy)) q cq W (hL'.below h)
  rw [vcode_el] at hV2
  have hS := fun W (h : Below w.heap.size w W) => sum_ok K C hC r (el K yy) (fun i hi => (el_mem.1 hi).1) (by have := el_len K yy; omega) o q cap cq W (hM.below h) (hL'.below h)
  have hO := fun W (h : Below w.heap.size w W) => rodd_ok yy K (el K bb) (fun i hi => (el_mem.1 hi).1) (by have := el_len K bb; omega) (by omega) p q cp cq W (hL.below h) (hL'.below h)
  have hn0 := el_len0 C (sumr r 0 (el K yy))
  obtain ⟨sx, hsx⟩ : ∃ x, sumr r 0 (el K yy) = x := ⟨_, rfl⟩
  obtain ⟨od, hod⟩ : ∃ x, odl yy (el K bb) = x := ⟨_, rfl⟩
  obtain ⟨res, hres⟩ : ∃ x, vfy C K r bb yy = x := ⟨_, rfl⟩
  have hres2 := hres
  unfold vfy at hres2
  rw [hsx, hod] at hres2
  rw [hsx] at hS hn0
  rw [hod] at hO
  rw [hres]
  obtain ⟨n1, hn1⟩ : ∃ n, (el K bb).length = n := ⟨_, rfl⟩
  obtain ⟨n2, hn2⟩ : ∃ n, (el K yy).length = n := ⟨_, rfl⟩
  rw [hn1] at hV1 hO ⊢
  rw [hn2] at hV2 hS hO ⊢
  have HV1 := Lib.hid hV1
  have HV2 := Lib.hid hV2
  have HS := Lib.hid hS
  have HO := Lib.hid hO
  have HR := Lib.hid hres2
  have HN := Lib.hid hn0
  unfold mv at H ⊢
  clear hV1 hV2 hS hO hres hres2 hn1 hn2 hsx hod hM hL hL' hb0 hn0
  go_enter Tryd.func34, Tryd.ntmps34
  go_wp2_with fail
  refine H.out.mono ?_
  rintro e W1 ⟨rfl, hb1⟩
  have HB1 := Lib.hid (HB.out.trans (Joins.below_le hb1 HB.out.size))
  have hx1 := HBx.out.below hb1 (by simp)
  have q0 := hx1.cell 0
  have q1 := hx1.cell 1
  have HX1 := Lib.hid hx1
  clear hb1 hx1
  go_wp2_with fail
  refine (HV1.out _ HB1.out).mono ?_
  rintro e W2 ⟨rfl, d, rfl⟩
  have HB2 := Lib.hid (below_dn d HB1.out)
  go_wp2_with fail
  refine (HV2.out _ HB2.out).mono ?_
  rintro e W3 ⟨rfl, d2, rfl⟩
  have HB3 := Lib.hid (below_dn (d + d2) HB1.out)
  go_wp2_with fail
  refine (HS.out _ HB3.out).mono ?_
  rintro e W4 ⟨v, rfl, hr, hb4⟩
  have HB4 := Lib.hid (HB3.out.trans (Joins.below_le hb4 HB3.out.size))
  obtain ⟨m, hm⟩ : ∃ m, (ints (el C sx)).length = m := ⟨_, rfl⟩
  obtain ⟨ov, cv, rfl, _⟩ := hr.shape' hm
  rw [ints_len] at hm
  have hn := HN.out
  rw [hm] at hn
  have hr9 := HR.out
  by_cases h0 : m = 0
  · have g1 : (decide ((0 : Int) < (m : Int))) = false := by simp [h0]
    have hsm := hn.1 h0
    have HSM := Lib.hid hsm
    have H0 := Lib.hid h0
    subst h0
    clear hr hb4 hm hn hr9 hsm
    go_wp2_with fail
    refine (HO.out _ HB4.out).mono ?_
    rintro e W5 ⟨rfl, rfl⟩
    cases od with
    | true =>
      have hr9 := HR.out
      rw [if_pos ⟨HSM.out, rfl⟩] at hr9
      subst hr9
      go_wp2_with fail
      go_ret
      exact ⟨rfl, HB4.out⟩
    | false =>
      have hr9 := HR.out
      rw [if_neg (by simp)] at hr9
      subst hr9
      go_wp2_with fail
      go_ret
      exact ⟨rfl, HB4.out⟩
  · have hm1 : (0 : Int) < (m : Int) := by omega
    rw [if_neg (fun h => h0 (hn.2 h.1))] at hr9
    subst hr9
    clear hr hb4 hm hn h0
    go_wp2_with fail
    go_ret
    exact ⟨rfl, HB4.out⟩

end Go.Proofs.YtbefkngeffpokaaDoor
