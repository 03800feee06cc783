/- The specification's Image and Apply. -/
import Derived.Test.YtbefkngeffpokaaDoorMxJ
import Derived.WalkKit
import Derived.WalkSpells
import Derived.WalkLawsBesides
import Derived.Handy
import Derived.Deep.QuietTactic
import Derived.BigQuiet
import Derived.Outline
import Derived.Laws.BitsAllLaws
import Derived.IntWalk
import Derived.Lib.SmallJoins
import Derived.Lib.Hide
import Derived.Deep.DeepCutAuto
import Derived.LoopTactic
import Derived.Deep.RegionWith
import Derived.Laws.CopyOwn
import Derived.Maps.OwnOps
import Derived.Maps.OwnSet
import Derived.Laws.OwnMore
import Derived.Maps.AppendAt
import Derived.RangeFuncNested
import Derived.RangeFuncBound
import Derived.RangeFuncCalls
import Derived.RangeFuncLeaves
import Derived.RangeFuncBox
import Derived.RangeFuncFrom
import Derived.Shelf.Abstract
import Derived.Shelf.RegionOpen
import Derived.OwnWalkIn
import Derived.TacticsInMore
import Derived.LoopNIn
import Derived.LoopIn
import Derived.Deep.RegionHeld3
import Derived.RegionTactic
import Derived.ChangeAlike
namespace Go.Proofs.YtbefkngeffpokaaDoor
set_option linter.unusedVariables false
set_option linter.unusedSimpArgs false
open Go.RowKit

theorem rapply_bad (C : Int) (K : Nat) (o : Option Addr) (cap : Nat) (v : Value) (w : World) (c : Int) (h0 : c ≠ 0) (hck : ∀ W, Below w.heap.size w W → Calls Tryd.prog 19 #[mv C o K cap] W fun e w' => e = .returned (.int .i64 c) ∧ Below W.heap.size W w') :
    Calls Tryd.prog 17 #[mv C o K cap, v] w (VRes [] c w) := by
  have H := Lib.hid (hck _ (mbel w C o K cap))
  have HB := Lib.hid (mbel w C o K cap)
  have g1 : (c != 0) = true := by rw [bne_iff_ne]; exact h0
  unfold mv at H ⊢
  clear hck h0
  go_enter Tryd.func17, Tryd.ntmps17
  go_wp2_with fail
  refine H.out.mono ?_
  rintro e W1 ⟨rfl, hb1⟩
  have HB1 := Lib.hid (HB.out.trans (Joins.below_le hb1 HB.out.size))
  clear hb1
  go_wp2_with fail
  go_ret2
  exact ⟨_, rfl, Row.nil _ _, HB1.out⟩
theorem rapply_bad2 (C : Int) (K : Nat) (o : Option Addr) (cap : Nat) (n : Nat) (hn : n ≤ 1000000000) (f : Nat → Int) (p : Option Addr) (cap' : Nat) (w : World) (hL : Lz w p n f) (c : Int) (hc : vcode C n f = c) (h0 : c ≠ 0) (hck : ∀ W, Below w.heap.size w W → Calls Tryd.prog 19 #[mv C o K cap] W fun e w' => e = .returned (.int .i64 0) ∧ Below W.heap.size W w') :
    Calls Tryd.prog 17 #[mv C o K cap, .slice p n cap'] w (VRes [] c w) := by
  have H := Lib.hid (hck _ (mbel w C o K cap))
  have HB := Lib.hid (mbel w C o K cap)
  have HBx := Lib.hid (mbox w C o K cap)
  have hV := fun W (h : Lz W p n f) => rvec_any C n hn f p cap' W h
  rw [hc] at hV
  have HV := Lib.hid hV
  have HL := Lib.hid hL
  have g1 : (c != 0) = true := by rw [bne_iff_ne]; exact h0
  unfold mv at H ⊢
  clear hck h0 hV hL hc
  go_enter Tryd.func17, Tryd.ntmps17
  go_wp2_with fail
  refine H.out.mono ?_
  rintro e W1 ⟨rfl, hb1⟩
  have HB1 := Lib.hid (HB.out.trans (Joins.below_le hb1 HB.out.size))
  have hx1 := HBx.out.below hb1 (by simp)
  have q0 := hx1.cell 0
  have q1 := hx1.cell 1
  clear hb1 hx1
  go_wp2_with fail
  refine (HV.out _ (HL.out.below HB1.out)).mono ?_
  rintro e W2 ⟨rfl, d, rfl⟩
  go_wp2_with fail
  go_ret2
  exact ⟨_, rfl, Row.nil _ _, below_dn d HB1.out⟩

set_option maxRecDepth 100000 in
set_option maxHeartbeats 4000000 in
theorem image_ok (C K : Nat) (hC : C ≤ 31) (hK : K ≤ 31) (r : Nat → Nat) (o : Option Addr) (cap : Nat) (y : Nat) (p : Option Addr) (cap' : Nat) (w : World) (hM : Mx w o K C r) (hL : Lz w p (el C y).length (lz (el C y))) :
    Calls Tryd.prog 49 #[mv (C : Int) o K cap, .slice p (el C y).length cap'] w fun e w' => ∃ v, e = .returned v ∧ Row w' w.heap.size v (ints (el K (imr K C r y))) ∧ Below w.heap.size w w' := by
  have hb0 := mbel w (C : Int) o K cap
  have HB := Lib.hid hb0
  have HBx := Lib.hid (mbox w (C : Int) o K cap)
  have HL := Lib.hid (hL.below hb0)
  have HM := Lib.hid (hM.below hb0)
  have hres := apl_el C r y K
  rw [← hres]
  have hny := el_len C y
  unfold mv
  clear hL hM hb0 hres
  go_enter Tryd.func49, Tryd.ntmps49
  go_wp2_with fail
  obtain ⟨W, hW⟩ : ∃ W, w.alloc (.cells #[.int .i64 (C : Int), .slice o K cap] 24) = W := ⟨_, rfl⟩
  rw [hW] at HL HM HB HBx ⊢
  obtain ⟨bx, hbx⟩ : ∃ b, w.heap.size = b := ⟨_, rfl⟩
  have Hbx := Lib.hid hbx
  rw [hbx] at HB HBx ⊢
  clear hW hbx
  go_loopw [5, 6] (fun v j wr => ∃ k : Nat, k ≤ K ∧ j = .int .i64 (k : Int) ∧ Row wr W.heap.size v (ints (apl C r y k)) ∧ Below W.heap.size W wr) (fun _ j _ => K - (intOf j).toNat)
  case atStart => exact ⟨0, by omega, by first | trivial | rfl, Row.nil _ _, Below.refl _ _⟩
  case round =>
    obtain ⟨k, hk, rfl, hrw, hbe⟩ := hrel
    have HRw := Lib.hid hrw
    have HBe := Lib.hid hbe
    have c0 := (HBx.out.below hbe (Box.lt HBx.out)).cell 0
    have c1 := (HBx.out.below hbe (Box.lt HBx.out)).cell 1
    by_cases hlt : k < K
    · have hk1 : (k : Int) < (K : Int) := by omega
      obtain ⟨bM, oM, oc, cpc, rfl, hbM, e1, l1⟩ := HM.out.at_ hlt
      have e2 := (hbe.cell (p := ⟨bM, oM + k, none⟩) hbM).trans e1
      have hod := rodd_ok y C (el C (r k)) (fun i hi => (el_mem.1 hi).1) (by have := el_len C (r k); omega) (by omega) oc p cpc cap' wr (l1.below hbe) (HL.out.below hbe)
      have hst := apl_step C r y k
      have hal := apl_len C r y k
      obtain ⟨q, hq⟩ : ∃ q, odl y (el C (r k)) = q := ⟨_, rfl⟩
      rw [hq] at hod hst
      obtain ⟨n1, hn1⟩ : ∃ n, (el C (r k)).length = n := ⟨_, rfl⟩
      rw [hn1] at hod e2
      have HOd := Lib.hid hod
      obtain ⟨pm, hpm⟩ : ∃ m, (ints (apl C r y k)).length = m := ⟨_, rfl⟩
      obtain ⟨ov, cv, rfl, _⟩ := hrw.shape' hpm
      have HPl := Lib.hid (show (ints (apl C r y k)).length ≤ 1000000 by rw [ints_len]; omega)
      have HSz := Lib.hid hbe.size
      clear e1 l1 hod hal hq hn1 hpm hrw hbe
      cases q with
      | true =>
        rw [if_pos rfl] at hst
        have HSt := Lib.hid hst
        clear hst
        go_wp2_with fail
        refine HOd.out.mono ?_
        rintro e w' ⟨rfl, rfl⟩
        go_wp2_with (at_builtin; refine app_int _ rfl _ _ rfl W.heap.size _ _ rfl (HRw.out.alloc _) _ (k : Int) rfl (World.cell?_alloc_mark _ #[_] 3 (0, 0) 0) HPl.out (by have := HSz.out; simp; omega) ?_; intro gg cv2 w2 hr2 hbb2 hgg; have HR2 := Lib.hid hr2; have HBB := Lib.hid ((HBe.out.alloc HSz.out _).trans hbb2); clear hr2 hbb2)
        go_roundw
        case rel => exact ⟨k + 1, by omega, by go_num, by rw [HSt.out, ints_snoc]; exact HR2.out, HBB.out⟩
        case measure => simp [intOf]; omega
      | false =>
        rw [if_neg (by simp)] at hst
        have HSt := Lib.hid hst
        clear hst
        go_wp2_with fail
        refine HOd.out.mono ?_
        rintro e w' ⟨rfl, rfl⟩
        go_wp2_with fail
        go_roundw
        case rel => exact ⟨k + 1, by omega, by go_num, by rw [HSt.out]; exact HRw.out, HBe.out⟩
        case measure => simp [intOf]; omega
    · have e : K = k := by omega
      subst e
      have hsz : bx ≤ W.heap.size := by have := HB.out.size; have := Hbx.out; omega
      have HBf := Lib.hid (HB.out.trans (Joins.below_le hbe hsz))
      have HRf := Lib.hid (hrw.le hsz)
      clear hlt hrw hbe
      go_wp2_with fail
      go_ret
      exact ⟨_, rfl, by rw [Hbx.out]; exact HRf.out, by first | exact HBf.out | (rw [Hbx.out]; exact HBf.out)⟩
set_option maxHeartbeats 1000000 in
theorem rapply_good (C K : Nat) (hC : C ≤ 31) (hK : K ≤ 31) (r : Nat → Nat) (o : Option Addr) (cap : Nat) (y : Nat) (p : Option Addr) (cap' : Nat) (w : World) (hM : Mx w o K C r) (hL : Lz w p (el C y).length (lz (el C y))) :
    Calls Tryd.prog 17 #[mv (C : Int) o K cap, .slice p (el C y).length cap'] w (VRes (el K (imr K C r y)) 0 w) := by
  have hb0 := mbel w (C : Int) o K cap
  have H := Lib.hid (rcheck_mx C K (by omega) (by omega) r o cap _ (hM.below hb0))
  have HB := Lib.hid hb0
  have HBx := Lib.hid (mbox w (C : Int) o K cap)
  have hV := fun W (h : Lz W p (el C y).length (lz (el C y))) => rvec_any (C : Int) (el C y).length (by have := el_len C y; omega) (lz (el C y)) p cap' W h
  rw [vcode_el] at hV
  have HV := Lib.hid hV
  have HI := Lib.hid (fun W (h : Mx W o K C r) (h' : Lz W p (el C y).length (lz (el C y))) => image_ok C K hC hK r o cap y p cap' W h h')
  have HL := Lib.hid hL
  have HM := Lib.hid hM
  obtain ⟨ny, hny⟩ : ∃ n, (el C y).length = n := ⟨_, rfl⟩
  rw [hny] at HV HI HL ⊢
  unfold mv at H HI ⊢
  clear hV hL hM hb0 hny
  go_enter Tryd.func17, Tryd.ntmps17
  go_wp2_with fail
  refine H.out.mono ?_
  rintro e W1 ⟨rfl, hb1⟩
  have HB1 := Lib.hid (HB.out.trans (Joins.below_le hb1 HB.out.size))
  have hx1 := HBx.out.below hb1 (by simp)
  have q0 := hx1.cell 0
  have q1 := hx1.cell 1
  clear hb1 hx1
  go_wp2_with fail
  refine (HV.out _ (HL.out.below HB1.out)).mono ?_
  rintro e W2 ⟨rfl, d, rfl⟩
  have HB2 := Lib.hid (below_dn d HB1.out)
  go_wp2_with fail
  refine (HI.out _ (HM.out.below HB2.out) (HL.out.below HB2.out)).mono ?_
  rintro e W3 ⟨v, rfl, hr, hb3⟩
  have HR := Lib.hid (hr.le HB2.out.size)
  have HB3 := Lib.hid (HB2.out.trans (Joins.below_le hb3 HB2.out.size))
  clear hr hb3
  go_wp2_with fail
  go_ret2
  exact ⟨_, rfl, HR.out, HB3.out⟩

end Go.Proofs.YtbefkngeffpokaaDoor
