/- The specification's Inverse, Order and Odd; PermutationChecks. -/
import Derived.Test.YtgppdbiimlbpjaaDoorRwQ
import Derived.WalkKit
import Derived.WalkSpells
import Derived.WalkLawsBesides
import Derived.Handy
import Derived.Deep.QuietTactic
import Derived.BigQuiet
import Derived.Outline
import Derived.Laws.BitsAllLaws
import Derived.IntWalk
import Derived.Lib.SmallJoins
import Derived.Lib.Hide
import Derived.Deep.DeepCutAuto
import Derived.LoopTactic
import Derived.Deep.RegionWith
import Derived.Laws.CopyOwn
import Derived.Maps.OwnOps
import Derived.Maps.OwnSet
import Derived.Laws.OwnMore
import Derived.Maps.AppendAt
import Derived.Test.YtgppdbiimlbpjaaDoorShelF
import Derived.RangeFuncNested
import Derived.RangeFuncBound
import Derived.RangeFuncCalls
import Derived.RangeFuncLeaves
import Derived.RangeFuncBox
import Derived.RangeFuncFrom
import Derived.Shelf.Abstract
import Derived.Shelf.RegionOpen
import Derived.OwnWalkIn
import Derived.TacticsInMore
import Derived.LoopNIn
import Derived.LoopIn
namespace Go.Proofs.YtgppdbiimlbpjaaDoor
set_option linter.unusedVariables false
set_option linter.unusedSimpArgs false
open Go.RowKit

theorem rinv_bad (n : Nat) (x : Nat → Int) (c : Int) (hc : pcode n x = c) (h0 : c ≠ 0) (o : Option Addr) (cap : Nat) (w : World) (hL : Lq w o n cap x) : Calls Tryd.prog 14 #[.slice o n cap] w (QRes 0 (fun _ => 0) c w) := by
  have H := Lib.hid (rcheck_any n x o cap w hL.1)
  rw [hc] at H
  have h1 : (c != 0) = true := by rw [bne_iff_ne]; exact h0
  clear hL hc h0
  go_enter Tryd.func14, Tryd.ntmps14
  go_wp2_with fail
  refine H.out.mono ?_
  rintro e w' ⟨rfl, hbc⟩
  have HBC := Lib.hid hbc
  clear hbc
  
  go_wp2_with fail
  go_ret2
  exact ⟨_, _, rfl, ⟨Lz.nil, by omega⟩, HBC.out⟩

theorem rord_bad (n : Nat) (x : Nat → Int) (c : Int) (hc : pcode n x = c) (h0 : c ≠ 0) (o : Option Addr) (cap : Nat) (w : World) (hL : Lq w o n cap x) : Calls Tryd.prog 16 #[.slice o n cap] w fun e w' => e = .returned (.tuple #[.int .i64 0, .int .i64 c]) ∧ Below w.heap.size w w' := by
  have H := Lib.hid (rcheck_any n x o cap w hL.1)
  rw [hc] at H
  have h1 : (c != 0) = true := by rw [bne_iff_ne]; exact h0
  clear hL hc h0
  go_enter Tryd.func16, Tryd.ntmps16
  go_wp2_with fail
  refine H.out.mono ?_
  rintro e w' ⟨rfl, hbc⟩
  have HBC := Lib.hid hbc
  clear hbc
  go_wp2_with fail
  go_ret2
  exact ⟨rfl, HBC.out⟩
theorem rodd_bad (n : Nat) (x : Nat → Int) (c : Int) (hc : pcode n x = c) (h0 : c ≠ 0) (o : Option Addr) (cap : Nat) (w : World) (hL : Lq w o n cap x) : Calls Tryd.prog 18 #[.slice o n cap] w fun e w' => e = .returned (.tuple #[.bool false, .int .i64 c]) ∧ Below w.heap.size w w' := by
  have H := Lib.hid (rcheck_any n x o cap w hL.1)
  rw [hc] at H
  have h1 : (c != 0) = true := by rw [bne_iff_ne]; exact h0
  clear hL hc h0
  go_enter Tryd.func18, Tryd.ntmps18
  go_wp2_with fail
  refine H.out.mono ?_
  rintro e w' ⟨rfl, hbc⟩
  have HBC := Lib.hid hbc
  clear hbc
  go_wp2_with fail
  go_ret2
  exact ⟨rfl, HBC.out⟩


set_option maxHeartbeats 1000000 in
theorem back_ok (n : Nat) (a : Nat → Nat) (ha : Good n a) (o : Option Addr) (cap : Nat) (w : World) (hL : Lz w o n (zf a)) : Calls Tryd.prog 48 #[.slice o n cap] w (QOne n (sct a (zf fun i => i) n) w) := by
  have hn := ha.hi
  have hmk := fun w => run_vec n (by omega) w
  have HL := Lib.hid hL
  have HA := Lib.hid ha.perm.lt
  clear hL ha
  go_enter Tryd.func48, Tryd.ntmps48
  go_wp2_with fail
  go_loopw [4] (fun j wr => ∃ i : Nat, i ≤ n ∧ j = .int .i64 (i : Int) ∧ Box wr w.heap.size (vec n (sct a (zf fun i => i) i)) 3 ∧ Below w.heap.size w wr) (fun j _ => n - (intOf j).toNat)
  case atStart => exact ⟨0, by omega, rfl, Box.new w _ _, (Below.refl _ _).alloc (Nat.le_refl _) _⟩
  case round =>
    clear hmk
    obtain ⟨i, hi, rfl, hbx, hbe⟩ := hrel
    have HBx := Lib.hid hbx
    have HBe := Lib.hid hbe
    clear hbx hbe
    by_cases hlt : i < n
    · obtain ⟨bl, ofs, rfl, hbl, hcl⟩ := HL.out (by omega)
      have hai := HA.out i hlt
      have c1 := (HBe.out.cell (p := ⟨bl, ofs + i, none⟩) hbl).trans (hcl i hlt)
      unfold zf at c1
      have c3 := (HBx.out.cell (a i)).trans (vec_get _ hai)
      have c4 := HBx.out.open_ (a i)
      obtain ⟨x, hx⟩ : ∃ x, a i = x := ⟨_, rfl⟩
      rw [hx] at c1 c3 c4 hai
      have HX := Lib.hid hx
      have hi1 : (i : Int) < (n : Int) := by omega
      have hx1 : (x : Int) < (n : Int) := by omega
      clear hcl hx
      go_wp2_with fail
      go_roundw
      case rel => exact ⟨i + 1, by omega, by go_num, ((show updz (sct a (zf fun i => i) i) x (i : Int) = sct a (zf fun i => i) (i + 1) from by show _ = updz (sct a (zf fun i => i) i) (a i) ((zf fun i => i) i); rw [HX.out]; rfl) ▸ HBx.out.setv x (i : Int)), HBe.out.setCell (by simp) _⟩
      case measure => simp [intOf]; omega
    · have e : i = n := by omega
      subst e
      go_wp2_with fail
      go_ret
      exact ⟨_, _, rfl, HBx.out.q, HBe.out⟩


theorem rinv_good (n : Nat) (a : Nat → Nat) (ha : Good n a) (o : Option Addr) (cap : Nat) (w : World) (hL : Lq w o n cap (zf a)) : Calls Tryd.prog 14 #[.slice o n cap] w (QRes n (sct a (zf fun i => i) n) 0 w) := by
  have H := Lib.hid (rcheck_any n (zf a) o cap w hL.1)
  rw [good_code ha] at H
  have HM := Lib.hid (fun W (h : Lz W o n (zf a)) => back_ok n a ha o cap W h)
  have HL := Lib.hid hL.1
  clear hL ha
  go_enter Tryd.func14, Tryd.ntmps14
  go_wp2_with fail
  refine H.out.mono ?_
  rintro e w' ⟨rfl, hbc⟩
  have HBC := Lib.hid hbc
  clear hbc
  go_wp2_with fail
  refine (HM.out _ (HL.out.below HBC.out)).mono ?_
  rintro e w' ⟨o1, c1, rfl, hq, hb⟩
  have HQ := Lib.hid hq
  have HB := Lib.hid hb
  clear hq hb
  go_wp2_with fail
  go_ret2
  exact ⟨_, _, rfl, HQ.out, HBC.out.trans (Joins.below_le HB.out HBC.out.size)⟩
theorem row_q {w : World} {R n : Nat} {v : Value} {f : Nat → Int} (h : Row w R v (lsf n f)) : ∃ o cap, v = .slice o n cap ∧ Lq w o n cap f := by
  obtain ⟨o, cap, e, hq⟩ := h.shapeQ
  have hl : (lsf n f).length = n := by simp [lsf]
  rw [hl] at e hq
  refine ⟨o, cap, e, hq.congr fun i hi => ?_⟩
  simp [lsf, List.getD_eq_getElem?_getD, hi]
set_option maxHeartbeats 1000000 in
theorem one_ok (n : Nat) (hn : n ≤ 65536) (w : World) : Calls Tryd.prog 46 #[.int .i64 (n : Int)] w (QOne n (zf fun i => i) w) := by
  go_enter Tryd.func46, Tryd.ntmps46
  go_wp2_with fail
  go_loopw [3, 4] (fun v j wr => ∃ i : Nat, i ≤ n ∧ j = .int .i64 (i : Int) ∧ Row wr w.heap.size v (lsf i (zf fun i => i)) ∧ Below w.heap.size w wr) (fun _ j _ => n - (intOf j).toNat)
  case atStart => exact ⟨0, by omega, rfl, World.ownsRow_nil _ _ _ _, Below.refl _ _⟩
  case round =>
    obtain ⟨i, hi, rfl, hR, hB⟩ := hrel
    have HR := Lib.hid hR
    have HB := Lib.hid hB
    clear hR hB
    by_cases hlt : i < n
    · have hi1 : (i : Int) < (n : Int) := by omega
      have hm : (lsf i (zf fun i => i)).length = i := by simp [lsf]
      obtain ⟨z, hz⟩ : ∃ z : Int, (i : Int) = z := ⟨_, rfl⟩
      have HZ := Lib.hid (show (zf fun i => i) i = z from hz)
      have hz' : z = (i : Int) := hz.symm
      subst hz'
      clear hz
      obtain ⟨ov, cv, rfl, hov⟩ := HR.out.shape' hm
      have HM := Lib.hid hm
      clear hm hov
      go_wp2_with (at_builtin; refine app_int _ rfl _ _ rfl w.heap.size _ _ rfl (HR.out.alloc _) wr.heap.size (i : Int) rfl (World.cell?_alloc_mark _ #[_] 3 (0, 0) 0) (by rw [HM.out]; omega) (by have := HB.out.size; simp; omega) ?_; intro gg cv2 w2 hr2 hbb2 hgg; rw [HM.out] at hr2 ⊢; have HR2 := Lib.hid hr2; have HBB := Lib.hid hbb2; clear hr2 hbb2)
      go_roundw
      case rel => exact ⟨i + 1, by omega, by go_num, by rw [← lsf_snoc, HZ.out]; exact HR2.out, (HB.out.alloc HB.out.size _).trans HBB.out⟩
      case measure => simp [intOf]; omega
    · have e : i = n := by omega
      subst e
      obtain ⟨ov, cv, rfl, hq⟩ := row_q HR.out
      have HQ := Lib.hid hq
      clear hq
      go_wp2_with fail
      go_ret
      exact ⟨_, _, rfl, HQ.out, HB.out⟩

set_option maxHeartbeats 1000000 in
theorem times_ok (n : Nat) (hn : n ≤ 65536) (a b : Nat → Nat) (hb : ∀ i, i < n → b i < n) (o p : Option Addr) (cap cap' : Nat) (w : World) (hL : Lz w o n (zf a)) (hL' : Lz w p n (zf b)) : Calls Tryd.prog 52 #[.slice o n cap, .slice p n cap'] w (QOne n (zf fun i => a (b i)) w) := by
  have HL := Lib.hid hL
  have HL' := Lib.hid hL'
  have HBl := Lib.hid hb
  clear hL hL' hb
  go_enter Tryd.func52, Tryd.ntmps52
  go_wp2_with fail
  go_loopw [5, 6] (fun v j wr => ∃ i : Nat, i ≤ n ∧ j = .int .i64 (i : Int) ∧ Row wr w.heap.size v (lsf i (zf fun i => a (b i))) ∧ Below w.heap.size w wr) (fun _ j _ => n - (intOf j).toNat)
  case atStart => exact ⟨0, by omega, rfl, World.ownsRow_nil _ _ _ _, Below.refl _ _⟩
  case round =>
    obtain ⟨i, hi, rfl, hR, hB⟩ := hrel
    have HR := Lib.hid hR
    have HB := Lib.hid hB
    clear hR hB
    by_cases hlt : i < n
    · have hi1 : (i : Int) < (n : Int) := by omega
      have hm : (lsf i (zf fun i => a (b i))).length = i := by simp [lsf]
      obtain ⟨bl, ofs, rfl, hbl, hcl⟩ := HL.out (by omega)
      obtain ⟨bg, ofg, rfl, hbg, hcg⟩ := HL'.out (by omega)
      have hbi := HBl.out i hlt
      have c1 := (HB.out.cell (p := ⟨bg, ofg + i, none⟩) hbg).trans (hcg i hlt)
      have c2 := (HB.out.cell (p := ⟨bl, ofs + b i, none⟩) hbl).trans (hcl (b i) hbi)
      unfold zf at c1
      obtain ⟨x, hx⟩ : ∃ x, b i = x := ⟨_, rfl⟩
      rw [hx] at c1 c2 hbi
      obtain ⟨z, hz⟩ : ∃ z, zf a x = z := ⟨_, rfl⟩
      rw [hz] at c2
      have HZ := Lib.hid (show (zf fun i => a (b i)) i = z by rw [← hz, ← hx]; rfl)
      have hx1 : (x : Int) < (n : Int) := by omega
      clear hcl hcg hx hz
      obtain ⟨ov, cv, rfl, hov⟩ := HR.out.shape' hm
      have HM := Lib.hid hm
      clear hm hov
      go_wp2_with (at_builtin; refine app_int _ rfl _ _ rfl w.heap.size _ _ rfl (HR.out.alloc _) wr.heap.size z rfl (World.cell?_alloc_mark _ #[_] 3 (0, 0) 0) (by rw [HM.out]; omega) (by have := HB.out.size; simp; omega) ?_; intro gg cv2 w2 hr2 hbb2 hgg; rw [HM.out] at hr2 ⊢; have HR2 := Lib.hid hr2; have HBB := Lib.hid hbb2; clear hr2 hbb2)
      go_roundw
      case rel => exact ⟨i + 1, by omega, by go_num, by rw [← lsf_snoc, HZ.out]; exact HR2.out, (HB.out.alloc HB.out.size _).trans HBB.out⟩
      case measure => simp [intOf]; omega
    · have e : i = n := by omega
      subst e
      obtain ⟨ov, cv, rfl, hq⟩ := row_q HR.out
      have HQ := Lib.hid hq
      clear hq
      go_wp2_with fail
      go_ret
      exact ⟨_, _, rfl, HQ.out, HB.out⟩

theorem eqb_idb (n : Nat) (a : Nat → Nat) (k : Nat) : eqb n (zf (itr a k)) n (zf fun i => i) = idb n a k := by
  rw [Bool.eq_iff_iff, idb_iff]
  unfold eqb
  rw [decide_eq_true_iff]
  exact ⟨fun h i hi => by have h2 : ((itr a k i : Nat) : Int) = ((i : Nat) : Int) := h.2 i hi; omega, fun h => ⟨rfl, fun i hi => by unfold zf; rw [h i hi]⟩⟩

set_option maxHeartbeats 1000000 in
theorem rord_good (n : Nat) (a : Nat → Nat) (ha : Good n a) (o : Option Addr) (cap : Nat) (w : World) (hL : Lq w o n cap (zf a)) : Calls Tryd.prog 16 #[.slice o n cap] w fun e w' => e = .returned (.tuple #[.int .i64 ((ordl n a : Nat) : Int), .int .i64 0]) ∧ Below w.heap.size w w' := by
  have H := Lib.hid (rcheck_any n (zf a) o cap w hL.1)
  rw [good_code ha] at H
  have HL := Lib.hid hL
  have HA := Lib.hid ha
  have hn := ha.hi
  clear hL ha
  go_enter Tryd.func16, Tryd.ntmps16
  go_wp2_with fail
  refine H.out.mono ?_
  rintro e w' ⟨rfl, hbc⟩
  have HBC := Lib.hid hbc
  have HLs := Lib.hid (HL.out.below hbc)
  clear hbc
  go_wp2_with fail
  go_loopw [5, 6] (fun v j wr => ∃ k : Nat, 1 ≤ k ∧ k ≤ 6 ∧ j = .int .i64 (k : Int) ∧ (∃ p c, v = .slice p n c ∧ Lq wr p n c (zf (itr a k))) ∧ (∀ i, 1 ≤ i → i < k → idb n a i = false) ∧ Below w.heap.size w wr) (fun _ j _ => 7 - (intOf j).toNat)
  case atStart => exact ⟨1, by omega, by omega, rfl, ⟨o, cap, rfl, HLs.out⟩, fun i h1 h2 => by omega, HBC.out⟩
  case round =>
    obtain ⟨k, h1, h6, rfl, ⟨p, c, rfl, hq⟩, hno, hb⟩ := hrel
    have HQ := Lib.hid hq
    have HNo := Lib.hid hno
    have HB := Lib.hid hb
    have HS := Lib.hid (fun W q d (h1 : Lz W p n (zf (itr a k))) (h2 : Lz W q n (zf fun i => i)) => same_any n n (by omega) (zf (itr a k)) (zf fun i => i) p q c d W h1 h2)
    rw [eqb_idb n a k] at HS
    clear hq hno hb
    cases hid : idb n a k with
    | true =>
      rw [hid] at HS
      have HOr := Lib.hid (ordl_is h1 h6 hid HNo.out)
      clear hid
      go_wp2_with fail
      refine (one_ok n (by omega) _).mono ?_
      rintro e w0 ⟨q, d, rfl, hq1, hb0⟩
      replace HB := Lib.hid (HB.out.trans (Joins.below_le hb0 HB.out.size))
      replace HQ := Lib.hid (HQ.out.below hb0)
      have HQ1 := Lib.hid hq1
      clear hq1 hb0
      go_wp2_with fail
      refine (HS.out _ _ _ HQ.out.1 HQ1.out.1).mono ?_
      rintro e w1 ⟨rfl, hb⟩
      have HB2 := Lib.hid (HB.out.trans (Joins.below_le hb HB.out.size))
      clear hb
      go_wp2_with fail
      go_ret2
      exact ⟨by rw [HOr.out]; rfl, HB2.out⟩
    | false =>
      rw [hid] at HS
      have h5 : k + 1 ≤ 6 := by
        obtain ⟨k0, g1, g6, g⟩ := ord_some HA.out
        rcases Nat.lt_trichotomy k0 k with h | h | h
        · rw [HNo.out k0 g1 h] at g; cases g
        · rw [h, hid] at g; cases g
        · omega
      have HId := Lib.hid hid
      clear hid
      go_wp2_with fail
      refine (one_ok n (by omega) _).mono ?_
      rintro e w0 ⟨q, d, rfl, hq1, hb0⟩
      replace HB := Lib.hid (HB.out.trans (Joins.below_le hb0 HB.out.size))
      replace HQ := Lib.hid (HQ.out.below hb0)
      have HQ1 := Lib.hid hq1
      clear hq1 hb0
      go_wp2_with fail
      refine (HS.out _ _ _ HQ.out.1 HQ1.out.1).mono ?_
      rintro e w1 ⟨rfl, hb⟩
      have HB2 := Lib.hid (HB.out.trans (Joins.below_le hb HB.out.size))
      have HQ2 := Lib.hid (HQ.out.below hb)
      clear hb HB HQ
      go_wp2_with fail
      refine (times_ok n (by omega) a (itr a k) (itr_good HA.out k).perm.lt o p cap c w1 (HL.out.below HB2.out).1 HQ2.out.1).mono ?_
      rintro e w2 ⟨p2, c2, rfl, hq2, hb⟩
      have HB3 := Lib.hid (HB2.out.trans (Joins.below_le hb HB2.out.size))
      have HQ3 := Lib.hid hq2
      clear hb hq2
      go_wp2_with fail
      go_roundw
      case rel =>
        refine ⟨k + 1, by omega, h5, by go_num, ⟨p2, c2, rfl, HQ3.out⟩, fun i g1 g2 => ?_, HB3.out⟩
        by_cases e : i = k
        · subst e; exact HId.out
        · exact HNo.out i g1 (by omega)
      case measure => simp [intOf]; omega


/-- The inversions of q with the first p places, those of all before q. -/
def rrow (a : Nat → Nat) (q : Nat) : Nat → Bool
  | 0 => false
  | p + 1 => rrow a q p != decide (a q < a p)
def rall (a : Nat → Nat) : Nat → Bool
  | 0 => false
  | q + 1 => rall a q != rrow a q q
set_option maxHeartbeats 1000000 in
theorem rodd_good (n : Nat) (a : Nat → Nat) (ha : Good n a) (o : Option Addr) (cap : Nat) (w : World) (hL : Lq w o n cap (zf a)) : Calls Tryd.prog 18 #[.slice o n cap] w fun e w' => e = .returned (.tuple #[.bool (rall a n), .int .i64 0]) ∧ Below w.heap.size w w' := by
  have H := Lib.hid (rcheck_any n (zf a) o cap w hL.1)
  rw [good_code ha] at H
  have HL0 := Lib.hid hL.1
  have hn := ha.hi
  clear hL ha
  go_enter Tryd.func18, Tryd.ntmps18
  go_wp2_with fail
  refine H.out.mono ?_
  rintro e W ⟨rfl, hbc⟩
  have HBC := Lib.hid hbc
  have HL := Lib.hid (HL0.out.below hbc)
  clear hbc HL0
  go_wp2_with fail
  go_loopw [5, 6] (fun v j wr => ∃ q : Nat, q ≤ n ∧ j = .int .i64 (q : Int) ∧ v = .bool (rall a q) ∧ ∃ d, wr = W.drewN d) (fun _ j _ => n - (intOf j).toNat)
  case atStart => exact ⟨0, by omega, rfl, rfl, 0, rfl⟩
  case round =>
    obtain ⟨q, hq, rfl, rfl, d, rfl⟩ := hrel
    obtain ⟨g, hg⟩ : ∃ g, rall a q = g := ⟨_, rfl⟩
    rw [hg]
    have HG := Lib.hid hg
    clear hg
    by_cases hlt : q < n
    · obtain ⟨bl, ofs, rfl, hbl, hcl⟩ := HL.out (by omega)
      have c1 := hcl q hlt
      unfold zf at c1
      have HC := Lib.hid hcl
      clear hcl
      obtain ⟨x, hx⟩ : ∃ x, a q = x := ⟨_, rfl⟩
      rw [hx] at c1
      have HX := Lib.hid hx
      clear hx
      have hp1 : (q : Int) < (n : Int) := by omega
      go_wp2_with fail
      go_loopw [5, 7] (fun v j wr => ∃ p : Nat, p ≤ q ∧ j = .int .i64 (p : Int) ∧ v = .bool (g != rrow a q p) ∧ ∃ d, wr = W.drewN d) (fun _ j _ => q - (intOf j).toNat)
      case atStart => exact ⟨0, by omega, rfl, by simp [rrow], d, rfl⟩
      case round =>
        obtain ⟨p, hp, rfl, rfl, d, rfl⟩ := hrel
        obtain ⟨f, hf⟩ : ∃ f, (g != rrow a q p) = f := ⟨_, rfl⟩
        rw [hf]
        have HF := Lib.hid hf
        clear hf
        by_cases hpq : p < q
        · have c2 := HC.out p (by omega)
          unfold zf at c2
          obtain ⟨y, hy⟩ : ∃ y, a p = y := ⟨_, rfl⟩
          rw [hy] at c2
          have HY := Lib.hid hy
          clear hy
          have hq1 : (p : Int) < (q : Int) := by omega
          have hq2 : (p : Int) < (n : Int) := by omega
          have hnew : (g != rrow a q (p + 1)) = (f != decide (x < y)) := by
            show (g != (rrow a q p != decide (a q < a p))) = _
            rw [← bne_step, HF.out, HX.out, HY.out]
          by_cases hxy : x < y
          · rw [decide_eq_true hxy] at hnew
            have HNew := Lib.hid hnew
            have hxy' : (x : Int) < (y : Int) := by omega
            have hd : decide (x < y) = true := decide_eq_true hxy
            clear hnew
            go_wp2_with fail
            go_quiet (fail)
            go_wp2_with fail
            go_roundw
            case rel => exact ⟨p + 1, by omega, by go_num, by rw [HNew.out]; first | rfl | (cases f <;> rfl), _, rfl⟩
            case measure => simp [intOf]; omega
          · rw [decide_eq_false hxy] at hnew
            have HNew := Lib.hid hnew
            have hxy' : ¬ (x : Int) < (y : Int) := by omega
            have hxy2 : (y : Int) ≤ (x : Int) := by omega
            have hd : decide (x < y) = false := decide_eq_false hxy
            clear hnew hxy
            go_wp2_with fail
            go_quiet (fail)
            go_wp2_with fail
            go_roundw
            case rel => exact ⟨p + 1, by omega, by go_num, by rw [HNew.out]; first | rfl | (cases f <;> rfl), _, rfl⟩
            case measure => simp [intOf]; omega
        · have e : p = q := by omega
          subst e
          clear hpq
          have hend : rall a (p + 1) = f := by
            show (rall a p != rrow a p p) = f
            rw [HG.out, HF.out]
          have HEnd := Lib.hid hend
          clear hend
          go_wp2_with fail
          go_roundw
          case rel => exact ⟨p + 1, by omega, by go_num, by rw [HEnd.out], _, rfl⟩
          case measure => simp [intOf]; omega
    · have e : q = n := by omega
      subst e
      go_wp2_with fail
      go_ret2
      exact ⟨by rw [HG.out]; rfl, below_dn _ HBC.out⟩
theorem odd_same {n : Nat} {a : Nat → Nat} (h : Good n a) : rall (fun_ (lo n a)) n = oall n (fun_ (lo n a)) n :=
  by_lists (P := fun n l => rall (fun_ l) n = oall n (fun_ l) n) (by decide +kernel) (by decide +kernel) (by decide +kernel) (by decide +kernel) (by decide +kernel) h
theorem inv_two (n : Nat) (x : Nat → Int) : ∃ (k : Nat) (u : Nat → Int) (c : Int), k ≤ 1000000 ∧
    (∀ o cap w, Lq w o n cap x → Calls Tryd.prog 13 #[.slice o n cap] w (QRes k u c w)) ∧
    (∀ o cap w, Lq w o n cap x → Calls Tryd.prog 14 #[.slice o n cap] w (QRes k u c w)) := by
  by_cases h0 : pcode n x = 0
  · obtain ⟨a, ha, he⟩ := good_of h0
    exact ⟨n, _, 0, by have := ha.hi; omega, fun o cap w h => inv_good n a ha o cap w (h.as he), fun o cap w h => rinv_good n a ha o cap w (h.as he)⟩
  · exact ⟨0, _, _, by omega, fun o cap w h => inv_bad n x _ rfl h0 o cap w h, fun o cap w h => rinv_bad n x _ rfl h0 o cap w h⟩
theorem ord_two (n : Nat) (x : Nat → Int) : ∃ r c : Int,
    (∀ o cap w, Lq w o n cap x → Calls Tryd.prog 15 #[.slice o n cap] w fun e w' => e = .returned (.tuple #[.int .i64 r, .int .i64 c]) ∧ Below w.heap.size w w') ∧
    (∀ o cap w, Lq w o n cap x → Calls Tryd.prog 16 #[.slice o n cap] w fun e w' => e = .returned (.tuple #[.int .i64 r, .int .i64 c]) ∧ Below w.heap.size w w') := by
  by_cases h0 : pcode n x = 0
  · obtain ⟨a, ha, he⟩ := good_of h0
    exact ⟨_, 0, fun o cap w h => ord_good n a ha o cap w (h.as he), fun o cap w h => rord_good n a ha o cap w (h.as he)⟩
  · exact ⟨0, _, fun o cap w h => ord_bad n x _ rfl h0 o cap w h, fun o cap w h => rord_bad n x _ rfl h0 o cap w h⟩
theorem odd_two (n : Nat) (x : Nat → Int) : ∃ (r : Bool) (c : Int),
    (∀ o cap w, Lq w o n cap x → Calls Tryd.prog 17 #[.slice o n cap] w fun e w' => e = .returned (.tuple #[.bool r, .int .i64 c]) ∧ Below w.heap.size w w') ∧
    (∀ o cap w, Lq w o n cap x → Calls Tryd.prog 18 #[.slice o n cap] w fun e w' => e = .returned (.tuple #[.bool r, .int .i64 c]) ∧ Below w.heap.size w w') := by
  by_cases h0 : pcode n x = 0
  · obtain ⟨a, ha, he⟩ := good_of h0
    have hg := (pl_good ha.lo ha.hi (lo_mem ha)).2
    have he2 : ∀ i, i < n → x i = zf (fun_ (lo n a)) i := fun i hi => by rw [he i hi]; unfold zf; rw [lo_at hi]
    exact ⟨_, 0, fun o cap w h => odd_good n _ hg o cap w (h.as he2), fun o cap w h => by have := rodd_good n _ hg o cap w (h.as he2); rwa [odd_same ha] at this⟩
  · exact ⟨false, _, fun o cap w h => odd_bad n x _ rfl h0 o cap w h, fun o cap w h => rodd_bad n x _ rfl h0 o cap w h⟩

set_option maxRecDepth 100000 in
set_option maxHeartbeats 4000000 in
theorem checks_ok (n : Nat) (x : Nat → Int) (o : Option Addr) (cap : Nat) (w : World) (hL : Lq w o n cap x) : Calls Tryd.prog 3 #[.slice o n cap] w fun e w' => e = .returned (.bool true) ∧ Below w.heap.size w w' := by
  have B := Lib.hid (Below.refl w.heap.size w)
  by_cases h1 : 60 < n
  · have h1z : (60 : Int) < (n : Int) := by omega
    have h1d : decide (60 < n) = true := decide_eq_true h1
    clear hL
    go_enter Tryd.func3, Tryd.ntmps3
    go_wp2_with fail
    refine (awake_ok _).mono ?_
    rintro e W1 ⟨rfl, hb⟩
    replace B := Lib.hid (B.out.trans (Joins.below_le hb B.out.size))
    clear hb 
    go_wp2_with fail
    go_ret
    exact ⟨rfl, B.out⟩
  · have h1z : ¬ (60 : Int) < (n : Int) := by omega
    have h1d : decide (60 < n) = false := decide_eq_false h1
    obtain ⟨k, u, c, hk, hi1, hi2⟩ := inv_two n x
    obtain ⟨r, c2, ho1, ho2⟩ := ord_two n x
    obtain ⟨bb, c3, hd1, hd2⟩ := odd_two n x
    obtain ⟨cd, hcd⟩ : ∃ c, pcode n x = c := ⟨_, rfl⟩
    have Hi1 := Lib.hid hi1
    have Hi2 := Lib.hid hi2
    have Ho1 := Lib.hid ho1
    have Ho2 := Lib.hid ho2
    have Hd1 := Lib.hid hd1
    have Hd2 := Lib.hid hd2
    have Hk := Lib.hid hk
    have La := Lib.hid hL
    clear hi1 hi2 ho1 ho2 hd1 hd2 hk hL h1
    go_enter Tryd.func3, Tryd.ntmps3
    go_wp2_with fail
    refine (Hi1.out _ _ _ La.out).mono ?_
    rintro e W1 ⟨o1, p1, rfl, hl, hb⟩
    replace La := Lib.hid (La.out.below hb)
    replace B := Lib.hid (B.out.trans (Joins.below_le hb B.out.size))
    have A1 := Lib.hid hl
    clear hb hl
    go_wp2_with fail
    refine (Hi2.out _ _ _ La.out).mono ?_
    rintro e W2 ⟨o2, p2, rfl, hl, hb⟩
    replace La := Lib.hid (La.out.below hb)
    replace A1 := Lib.hid (A1.out.below hb)
    replace B := Lib.hid (B.out.trans (Joins.below_le hb B.out.size))
    have A2 := Lib.hid hl
    clear hb hl
    go_wp2_with fail
    refine (Ho1.out _ _ _ La.out).mono ?_
    rintro e W3 ⟨rfl, hb⟩
    replace La := Lib.hid (La.out.below hb)
    replace A1 := Lib.hid (A1.out.below hb)
    replace A2 := Lib.hid (A2.out.below hb)
    replace B := Lib.hid (B.out.trans (Joins.below_le hb B.out.size))
    clear hb 
    go_wp2_with fail
    refine (Ho2.out _ _ _ La.out).mono ?_
    rintro e W4 ⟨rfl, hb⟩
    replace La := Lib.hid (La.out.below hb)
    replace A1 := Lib.hid (A1.out.below hb)
    replace A2 := Lib.hid (A2.out.below hb)
    replace B := Lib.hid (B.out.trans (Joins.below_le hb B.out.size))
    clear hb 
    go_wp2_with fail
    refine (Hd1.out _ _ _ La.out).mono ?_
    rintro e W5 ⟨rfl, hb⟩
    replace La := Lib.hid (La.out.below hb)
    replace A1 := Lib.hid (A1.out.below hb)
    replace A2 := Lib.hid (A2.out.below hb)
    replace B := Lib.hid (B.out.trans (Joins.below_le hb B.out.size))
    clear hb 
    go_wp2_with fail
    refine (Hd2.out _ _ _ La.out).mono ?_
    rintro e W6 ⟨rfl, hb⟩
    replace La := Lib.hid (La.out.below hb)
    replace A1 := Lib.hid (A1.out.below hb)
    replace A2 := Lib.hid (A2.out.below hb)
    replace B := Lib.hid (B.out.trans (Joins.below_le hb B.out.size))
    clear hb 
    go_wp2_with fail
    refine (awake_ok _).mono ?_
    rintro e W7 ⟨rfl, hb⟩
    replace La := Lib.hid (La.out.below hb)
    replace A1 := Lib.hid (A1.out.below hb)
    replace A2 := Lib.hid (A2.out.below hb)
    replace B := Lib.hid (B.out.trans (Joins.below_le hb B.out.size))
    clear hb 
    go_wp2_with fail
    refine (check_any n x _ _ _ La.out).mono ?_
    rw [hcd]
    rintro e w' ⟨rfl, rfl⟩
    go_wp2_with fail
    refine (rcheck_any n x _ _ _ La.out.1).mono ?_
    rw [hcd]
    rintro e W8 ⟨rfl, hb⟩
    replace La := Lib.hid (La.out.below hb)
    replace A1 := Lib.hid (A1.out.below hb)
    replace A2 := Lib.hid (A2.out.below hb)
    replace B := Lib.hid (B.out.trans (Joins.below_le hb B.out.size))
    clear hb 
    clear La
    go_wp2_with fail
    refine (equal_any k k Hk.out u u _ _ _ _ _ A1.out.1 A2.out.1).mono ?_
    rw [eqb_self (fun _ _ => rfl)]
    rintro e W9 ⟨rfl, hb⟩
    replace A1 := Lib.hid (A1.out.below hb)
    replace A2 := Lib.hid (A2.out.below hb)
    replace B := Lib.hid (B.out.trans (Joins.below_le hb B.out.size))
    clear hb 
    clear A1 A2
    go_wp2_with fail
    go_ret
    exact ⟨rfl, B.out⟩

end Go.Proofs.YtgppdbiimlbpjaaDoor
