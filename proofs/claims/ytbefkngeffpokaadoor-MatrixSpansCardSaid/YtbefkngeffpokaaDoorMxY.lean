/- The package's Verify. -/
import Derived.Test.YtbefkngeffpokaaDoorMxS
import Derived.Test.YtbefkngeffpokaaDoorMxW
import Derived.WalkKit
import Derived.WalkSpells
import Derived.WalkLawsBesides
import Derived.Handy
import Derived.Deep.QuietTactic
import Derived.BigQuiet
import Derived.Outline
import Derived.Laws.BitsAllLaws
import Derived.IntWalk
import Derived.Lib.SmallJoins
import Derived.Lib.Hide
import Derived.Deep.DeepCutAuto
import Derived.LoopTactic
import Derived.Deep.RegionWith
import Derived.Laws.CopyOwn
import Derived.Maps.OwnOps
import Derived.Maps.OwnSet
import Derived.Laws.OwnMore
import Derived.Maps.AppendAt
import Derived.RangeFuncNested
import Derived.RangeFuncBound
import Derived.RangeFuncCalls
import Derived.RangeFuncLeaves
import Derived.RangeFuncBox
import Derived.RangeFuncFrom
import Derived.Shelf.Abstract
import Derived.Shelf.RegionOpen
import Derived.OwnWalkIn
import Derived.TacticsInMore
import Derived.LoopNIn
import Derived.LoopIn
import Derived.Deep.RegionHeld3
import Derived.RegionTactic
import Derived.ChangeAlike
namespace Go.Proofs.YtbefkngeffpokaaDoor
set_option linter.unusedVariables false
set_option linter.unusedSimpArgs false
open Go.RowKit

set_option maxRecDepth 100000 in
set_option maxHeartbeats 4000000 in
theorem verify_good (C K : Nat) (hC : C ≤ 31) (hK : K ≤ 31) (r : Nat → Nat) (hr : ∀ c, c < K → r c < 2 ^ C) (bb yy : Nat) (hbb : bb < 2 ^ K) (o p q : Option Addr) (cap cp cq : Nat) (w : World) (hT : Tb w) (hM : Mx w o K C r) (hL : Lz w p (el K bb).length (lz (el K bb))) (hL' : Lz w q (el K yy).length (lz (el K yy))) :
    Calls Tryd.prog 35 #[mv (C : Int) o K cap, .slice p (el K bb).length cp, .slice q (el K yy).length cq] w fun e w' => e = .returned (.int .i64 (vfy C K r bb yy)) ∧ Below w.heap.size w w' := by
  have hb0 := mbel w (C : Int) o K cap
  have H := Lib.hid (check_mx C K (by omega) (by omega) r o cap _ (hM.below hb0))
  have HB := Lib.hid hb0
  have HBx := Lib.hid (mbox w (C : Int) o K cap)
  have hV1 := fun W (h : Below w.heap.size w W) => cvec_any (K : Int) (el K bb).length (by have := el_len K bb; omega) (lz (el K bb)) p cp W (hL.below h)
  rw [vcode_el] at hV1
  have hV2 := fun W (h : Below w.heap.size w W) => cvec_any (K : Int) (el K yy).length (by have := el_len K yy; omega) (lz (el K yy)) q cq W (hL'.below h)
  rw [vcode_el] at hV2
  have HNb := Lib.hid (fun n (hn : n < 64) W => newbits_ok n hn W)
  obtain ⟨n1, hn1⟩ : ∃ n, (el K bb).length = n := ⟨_, rfl⟩
  obtain ⟨n2, hn2⟩ : ∃ n, (el K yy).length = n := ⟨_, rfl⟩
  obtain ⟨res, hres⟩ : ∃ x, vfy C K r bb yy = x := ⟨_, rfl⟩
  rw [hres]
  have HRes0 := Lib.hid hres
  clear hres
  have HL := Lib.hid hL
  have HL' := Lib.hid hL'
  have HM := Lib.hid hM
  have HT := Lib.hid hT
  have HRl := Lib.hid hr
  rw [hn1] at hV1 HL ⊢
  rw [hn2] at hV2 HL' ⊢
  have HN1 := Lib.hid hn1
  have HN2 := Lib.hid hn2
  have HV1 := Lib.hid hV1
  have HV2 := Lib.hid hV2
  unfold mv at H ⊢
  clear hV1 hV2 hn1 hn2 hM hL hL' hb0 hT hr
  go_enter Tryd.func35, Tryd.ntmps35
  go_wp2_with fail
  refine H.out.mono ?_
  rintro e W1 ⟨rfl, hb1⟩
  have HB1 := Lib.hid (HB.out.trans (Joins.below_le hb1 HB.out.size))
  have hx1 := HBx.out.below hb1 (by simp)
  have q0 := hx1.cell 0
  have q1 := hx1.cell 1
  have HX1 := Lib.hid hx1
  clear hb1 hx1
  go_wp2_with fail
  refine (HV1.out _ HB1.out).mono ?_
  rintro e W2 ⟨rfl, rfl⟩
  go_wp2_with fail
  refine (HV2.out _ HB1.out).mono ?_
  rintro e W3 ⟨rfl, rfl⟩
  go_wp2_with fail
  refine (HNb.out C (by omega) _).mono ?_
  rintro e W2 ⟨rfl, hbx, hb2⟩
  have HB2 := Lib.hid (HB1.out.trans (Joins.below_le hb2 HB1.out.size))
  have HX2 := Lib.hid (HX1.out.below hb2 HX1.out.lt)
  have HBv := Lib.hid hbx
  have HSl := Lib.hid HX1.out.lt
  have HSw := Lib.hid HB1.out.size
  obtain ⟨bv, hbv⟩ : ∃ b, W1.heap.size = b := ⟨_, rfl⟩
  obtain ⟨S, hS⟩ : ∃ b, w.heap.size = b := ⟨_, rfl⟩
  rw [hbv] at HBv HSl HSw ⊢
  rw [hS] at HSl HX2 HSw ⊢
  have q1 := HX2.out.cell 1
  clear q0 hbx hb2 hbv
  have HS := Lib.hid hS
  clear hS
  go_wp2_with fail
  go_loopw [40] (fun j wr => ∃ jj : Nat, jj ≤ n2 ∧ j = .int .i64 (jj : Int) ∧ Bx wr bv (sumr r 0 ((el K yy).take jj)) ∧ sumr r 0 ((el K yy).take jj) < 2 ^ C ∧ Kept (some bv) W2.heap.size W2 wr) (fun j _ => n2 - (intOf j).toNat)
  case atStart => exact ⟨0, by omega, by first | trivial | rfl, by simpa [sumr] using HBv.out, by simp [sumr]; exact Nat.two_pow_pos _, Kept.refl _ _ _⟩
  case round =>
    obtain ⟨jj, hj, rfl, hbx, hlt2, hkp⟩ := hrel
    have hsl := HSl.out
    have hsw := HSw.out
    have hbvl := Box.lt HBv.out
    have hbW : Below w.heap.size w wr := HB2.out.trans ((hkp.le HB2.out.size).below (fun k hk => by cases hk; have := HS.out; omega))
    have hX : Box wr S #[.int .i64 (C : Int), .slice o K cap] 24 := (hkp.block S (by omega) (fun e => by cases e; omega)).trans HX2.out
    have c0 := hX.cell 0
    have c1 := hX.cell 1
    have hnl : n2 ≤ 31 := by rw [← HN2.out]; have := el_len K yy; omega
    have h32 : ∀ y, y < 2 ^ C → y < 4294967296 := fun y hy => Nat.lt_of_lt_of_le hy (Nat.le_trans (Nat.pow_le_pow_right (n := 2) (by omega) (show C ≤ 32 by omega)) (by omega))
    by_cases hlj : jj < n2
    · have hj1 : (jj : Int) < (n2 : Int) := by omega
      have hzz := HL'.out.below hbW
      obtain ⟨bl, ofs, rfl, hbl2, hcc⟩ := hzz (by omega)
      have c2 := hcc jj hlj
      have hjl : jj < (el K yy).length := by rw [HN2.out]; exact hlj
      obtain ⟨x, hx⟩ : ∃ x, (el K yy).getD jj 0 = x := ⟨_, rfl⟩
      have c3 : wr.cell? ⟨bl, ofs + jj, none⟩ = some (.int .i64 (x : Int)) := by rw [← hx]; exact c2
      have hxk : x < K := (el_mem.1 (by rw [← hx, List.getD_eq_getElem?_getD, List.getElem?_eq_getElem hjl]; exact List.getElem_mem _ : x ∈ el K yy)).1
      have htk : (el K yy).take (jj + 1) = (el K yy).take jj ++ [x] := by rw [take_getD hjl, hx]
      have hsn : sumr r 0 ((el K yy).take (jj + 1)) = sumr r 0 ((el K yy).take jj) ^^^ r x := by rw [htk, sumr_snoc]
      have hx1 : (x : Int) < (K : Int) := by omega
      obtain ⟨bM, oM, oc, cpc, rfl, hbM, e1, l1⟩ := HM.out.at_ hxk
      have e2 := (hbW.cell (p := ⟨bM, oM + x, none⟩) hbM).trans e1
      have hfl := flipall_ok bv (sumr r 0 ((el K yy).take jj)) (h32 _ hlt2) (el C (r x)) (fun i hi => by have := (el_mem.1 hi).1; omega) (by have := el_len C (r x); omega) oc cpc wr hbx (l1.below hbW) (fun hn g off e => by have := l1.blk hn e; have := HS.out; omega)
      rw [flips_eq, msk_el (HRl.out x hxk), ← hsn] at hfl
      have hl3 : sumr r 0 ((el K yy).take (jj + 1)) < 2 ^ C := by rw [hsn]; exact Nat.xor_lt_two_pow hlt2 (HRl.out x hxk)
      obtain ⟨n3, hn3⟩ : ∃ n, (el C (r x)).length = n := ⟨_, rfl⟩
      rw [hn3] at hfl e2
      have HFl := Lib.hid hfl
      have HL3 := Lib.hid hl3
      have HKp := Lib.hid hkp
      have HBl := Lib.hid hbvl
      clear hcc c2 hx hzz hjl htk hsn e1 l1 hfl hn3 hl3 hbW hX hbx hlt2 hkp h32 hbl2 hbM hbvl hsl hsw
      go_wp2_with fail
      refine HFl.out.mono ?_
      rintro e w5 ⟨rfl, hb5, hk5⟩
      have HB5 := Lib.hid hb5
      have HK5 := Lib.hid (HKp.out.trans (hk5.le HKp.out.size))
      clear hb5 hk5
      go_wp2_with fail
      go_roundw
      case rel => exact ⟨jj + 1, by omega, by go_num, HB5.out, HL3.out, HK5.out⟩
      case measure => simp [intOf]; omega
    · have e : n2 = jj := by omega
      have htl : (el K yy).take jj = el K yy := List.take_of_length_le (by rw [HN2.out]; omega)
      rw [htl] at hbx hlt2
      subst e
      have hbb32 : bb < 4294967296 := Nat.lt_of_lt_of_le hbb (Nat.le_trans (Nat.pow_le_pow_right (n := 2) (by omega) (show K ≤ 32 by omega)) (by omega))
      obtain ⟨acc, hacc⟩ : ∃ a, sumr r 0 (el K yy) = a := ⟨_, rfl⟩
      have hres2 := HRes0.out
      unfold vfy at hres2
      have hsym : odl bb (el K yy) = odl yy (el K bb) := by
        rw [odl_bit, odl_bit]
        congr 1
        funext j
        exact Bool.and_comm _ _
      rw [hacc] at hbx hlt2 hres2
      rw [Nat.mod_eq_of_lt hlt2, ← hsym] at hres2
      have HR := Lib.hid hres2
      have HAcc := Lib.hid (h32 acc hlt2)
      have HBb := Lib.hid hbb32
      have HBx2 := Lib.hid hbx
      have HBw := Lib.hid hbW
      have HVl := Lib.hid (Box.lt hbx)
      have HK := Lib.hid hK
      have HKb := Lib.hid hbb
      clear htl hres2 hsym hacc hbx hlt2 hkp h32 hbb32 hbW hbvl hsl hsw hlj hnl
      go_wp2_with fail
      refine (HNb.out K (by have := HK.out; omega) _).mono ?_
      rintro e y1 ⟨rfl, hb0, hb1⟩
      have HS1 := Lib.hid (Bx.below HBx2.out hb1 HVl.out)
      have HW1 := Lib.hid (HBw.out.trans (hb1.mono HBw.out.size))
      have HR1 := Lib.hid hb0
      obtain ⟨br, hbr⟩ : ∃ b, wr.heap.size = b := ⟨_, rfl⟩
      have HWs := Lib.hid HBw.out.size
      rw [hbr] at HR1 HVl HWs ⊢
      clear hb0 hb1 hbr
      have hfl := flipall_ok br 0 (by omega) (el K bb) (fun i hi => by have := (el_mem.1 hi).1; have := HK.out; omega) (by have := el_len K bb; have := HK.out; omega) p cp y1 HR1.out (by rw [HN1.out]; exact HL.out.below HW1.out) (fun hn g off e => by rw [HN1.out] at hn; have := HL.out.blk hn e; have := HWs.out; omega)
      have e0 : flips 0 (el K bb) = bb := msk_el HKb.out
      rw [e0, HN1.out] at hfl
      have HFl := Lib.hid hfl
      clear hfl e0
      go_wp2_with fail
      refine HFl.out.mono ?_
      rintro e y2 ⟨rfl, hb2, hk2⟩
      have HS2 := Lib.hid (Bx.kept HS1.out hk2 (fun e => by cases e; have := HVl.out; omega))
      have HR2 := Lib.hid hb2
      have HW2 := Lib.hid (HW1.out.trans ((hk2.le HW1.out.size).below (fun k hk => by cases hk; exact HWs.out)))
      clear hb2 hk2
      have hfi := first_any bv acc 0 HAcc.out (by omega) y2 HS2.out (HT.out.here HW2.out)
      have HFi := Lib.hid hfi
      clear hfi
      go_wp2_with fail
      refine HFi.out.mono ?_
      rintro e y3 ⟨⟨v, rfl, hv⟩, rfl⟩
      rcases hv with ⟨p0, _, h2, _, rfl⟩ | ⟨h1, rfl⟩
      · have hne : acc ≠ 0 := fun e => by rw [e, Nat.zero_testBit] at h2; cases h2
        have hr9 := HR.out
        rw [if_neg (fun h => hne h.1)] at hr9
        subst hr9
        have hp0 : (0 : Int) ≤ (p0 : Int) := by omega
        clear h2 hne
        go_wp2_with fail
        go_ret
        exact ⟨rfl, HW2.out⟩
      · have hz : acc = 0 := Nat.eq_of_testBit_eq fun i => by rw [h1 i (Nat.zero_le _), Nat.zero_testBit]
        have hod := odd_ok br bb HBb.out (el K yy) (fun i hi => by have := (el_mem.1 hi).1; have := HK.out; omega) (by have := el_len K yy; have := HK.out; omega) q cq y2 HR2.out (by rw [HN2.out]; exact HL'.out.below HW2.out)
        obtain ⟨od, hod2⟩ : ∃ b, odl bb (el K yy) = b := ⟨_, rfl⟩
        rw [hod2, HN2.out] at hod
        have hr9 := HR.out
        rw [hod2] at hr9
        have HOd := Lib.hid hod
        have HZ := Lib.hid hz
        have HR9 := Lib.hid hr9
        clear h1 hz hod hod2 hr9
        go_wp2_with fail
        refine HOd.out.mono ?_
        rintro e y4 ⟨rfl, rfl⟩
        cases od with
        | true =>
          have hr9 := HR9.out
          rw [if_pos ⟨HZ.out, rfl⟩] at hr9
          subst hr9
          go_wp2_with fail
          go_ret
          exact ⟨rfl, HW2.out⟩
        | false =>
          have hr9 := HR9.out
          rw [if_neg (by simp)] at hr9
          subst hr9
          go_wp2_with fail
          go_ret
          exact ⟨rfl, HW2.out⟩

end Go.Proofs.YtbefkngeffpokaaDoor
