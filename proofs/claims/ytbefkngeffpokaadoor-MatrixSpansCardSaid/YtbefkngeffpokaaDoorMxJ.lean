/- Apply, both sides. -/
import Derived.Test.YtbefkngeffpokaaDoorMxH
import Derived.WalkKit
import Derived.WalkSpells
import Derived.WalkLawsBesides
import Derived.Handy
import Derived.Deep.QuietTactic
import Derived.BigQuiet
import Derived.Outline
import Derived.Laws.BitsAllLaws
import Derived.IntWalk
import Derived.Lib.SmallJoins
import Derived.Lib.Hide
import Derived.Deep.DeepCutAuto
import Derived.LoopTactic
import Derived.Deep.RegionWith
import Derived.Laws.CopyOwn
import Derived.Maps.OwnOps
import Derived.Maps.OwnSet
import Derived.Laws.OwnMore
import Derived.Maps.AppendAt
import Derived.RangeFuncNested
import Derived.RangeFuncBound
import Derived.RangeFuncCalls
import Derived.RangeFuncLeaves
import Derived.RangeFuncBox
import Derived.RangeFuncFrom
import Derived.Shelf.Abstract
import Derived.Shelf.RegionOpen
import Derived.OwnWalkIn
import Derived.TacticsInMore
import Derived.LoopNIn
import Derived.LoopIn
import Derived.Deep.RegionHeld3
import Derived.RegionTactic
import Derived.ChangeAlike
namespace Go.Proofs.YtbefkngeffpokaaDoor
set_option linter.unusedVariables false
set_option linter.unusedSimpArgs false
open Go.RowKit


/-- The rows among the first k that have an odd number of positions in common with y. -/
def apl (C : Nat) (r : Nat → Nat) (y k : Nat) : List Nat := (List.range k).filter fun i => odl y (el C (r i))
theorem apl_step (C : Nat) (r : Nat → Nat) (y k : Nat) : apl C r y (k + 1) = if odl y (el C (r k)) then apl C r y k ++ [k] else apl C r y k := by
  unfold apl
  rw [List.range_succ, List.filter_append]
  by_cases h : odl y (el C (r k)) = true
  · rw [if_pos h]; simp [h]
  · rw [if_neg h]; simp [h]
theorem apl_len (C : Nat) (r : Nat → Nat) (y k : Nat) : (apl C r y k).length ≤ k := by
  unfold apl
  exact Nat.le_trans (List.length_filter_le _ _) (by simp)
theorem apl_el (C : Nat) (r : Nat → Nat) (y K : Nat) : apl C r y K = el K (imr K C r y) := by
  unfold imr
  rw [el_msk (List.pairwise_lt_range.filter _) fun i hi => List.mem_range.1 (List.mem_filter.1 hi).1]
  rfl
/-- A list and an error come back. -/
def VRes (l : List Nat) (c : Int) (w : World) (e : Ending) (w' : World) : Prop := ∃ v, e = .returned (.tuple #[v, .int .i64 c]) ∧ Row w' w.heap.size v (ints l) ∧ Below w.heap.size w w'
theorem Lz.blk {w : World} {o : Option Addr} {n : Nat} {f : Nat → Int} (h : Lz w o n f) (hn : 0 < n) {g off : Nat} (e : o = some ⟨g, off, none⟩) : g < w.heap.size := by
  obtain ⟨b, off', e1, h1, _⟩ := h hn
  rw [e1] at e
  cases e
  exact h1
/-- A matrix in a box of its own. -/
theorem mbox (w : World) (C : Int) (o : Option Addr) (K cap : Nat) : Box (w.alloc (.cells #[.int .i64 C, .slice o K cap] 24)) w.heap.size #[.int .i64 C, .slice o K cap] 24 := Box.new w _ _
theorem mbel (w : World) (C : Int) (o : Option Addr) (K cap : Nat) : Below w.heap.size w (w.alloc (.cells #[.int .i64 C, .slice o K cap] 24)) := (Below.refl _ _).alloc (Nat.le_refl _) _
theorem apply_bad (C : Int) (K : Nat) (o : Option Addr) (cap : Nat) (v : Value) (w : World) (c : Int) (h0 : c ≠ 0) (hck : ∀ W, Below w.heap.size w W → Calls Tryd.prog 18 #[mv C o K cap] W fun e w' => e = .returned (.int .i64 c) ∧ Below W.heap.size W w') :
    Calls Tryd.prog 16 #[mv C o K cap, v] w (VRes [] c w) := by
  have H := Lib.hid (hck _ (mbel w C o K cap))
  have HB := Lib.hid (mbel w C o K cap)
  have g1 : (c != 0) = true := by rw [bne_iff_ne]; exact h0
  unfold mv at H ⊢
  clear hck h0
  go_enter Tryd.func16, Tryd.ntmps16
  go_wp2_with fail
  refine H.out.mono ?_
  rintro e W1 ⟨rfl, hb1⟩
  have HB1 := Lib.hid (HB.out.trans (Joins.below_le hb1 HB.out.size))
  clear hb1
  go_wp2_with fail
  go_ret2
  exact ⟨_, rfl, Row.nil _ _, HB1.out⟩
theorem apply_bad2 (C : Int) (K : Nat) (o : Option Addr) (cap : Nat) (n : Nat) (hn : n ≤ 1000000000) (f : Nat → Int) (p : Option Addr) (cap' : Nat) (w : World) (hL : Lz w p n f) (c : Int) (hc : vcode C n f = c) (h0 : c ≠ 0) (hck : ∀ W, Below w.heap.size w W → Calls Tryd.prog 18 #[mv C o K cap] W fun e w' => e = .returned (.int .i64 0) ∧ Below W.heap.size W w') :
    Calls Tryd.prog 16 #[mv C o K cap, .slice p n cap'] w (VRes [] c w) := by
  have H := Lib.hid (hck _ (mbel w C o K cap))
  have HB := Lib.hid (mbel w C o K cap)
  have HBx := Lib.hid (mbox w C o K cap)
  have hV := fun W (h : Lz W p n f) => cvec_any C n hn f p cap' W h
  rw [hc] at hV
  have HV := Lib.hid hV
  have HL := Lib.hid hL
  have g1 : (c != 0) = true := by rw [bne_iff_ne]; exact h0
  unfold mv at H ⊢
  clear hck h0 hV hL hc
  go_enter Tryd.func16, Tryd.ntmps16
  go_wp2_with fail
  refine H.out.mono ?_
  rintro e W1 ⟨rfl, hb1⟩
  have HB1 := Lib.hid (HB.out.trans (Joins.below_le hb1 HB.out.size))
  have hx1 := HBx.out.below hb1 (by simp)
  have q0 := hx1.cell 0
  have q1 := hx1.cell 1
  clear hb1 hx1
  go_wp2_with fail
  refine (HV.out _ (HL.out.below HB1.out)).mono ?_
  rintro e W2 ⟨rfl, rfl⟩
  go_wp2_with fail
  go_ret2
  exact ⟨_, rfl, Row.nil _ _, HB1.out⟩
set_option maxRecDepth 100000 in
set_option maxHeartbeats 4000000 in
theorem apply_good (C K : Nat) (hC : C ≤ 31) (hK : K ≤ 31) (r : Nat → Nat) (o : Option Addr) (cap : Nat) (y : Nat) (hy : y < 2 ^ C) (p : Option Addr) (cap' : Nat) (w : World) (hM : Mx w o K C r) (hL : Lz w p (el C y).length (lz (el C y))) :
    Calls Tryd.prog 16 #[mv (C : Int) o K cap, .slice p (el C y).length cap'] w (VRes (el K (imr K C r y)) 0 w) := by
  have hb0 := mbel w (C : Int) o K cap
  have H := Lib.hid (check_mx C K (by omega) (by omega) r o cap _ (hM.below hb0))
  have HB := Lib.hid hb0
  have HBx := Lib.hid (mbox w (C : Int) o K cap)
  have hV := fun W (h : Lz W p (el C y).length (lz (el C y))) => cvec_any (C : Int) (el C y).length (by have := el_len C y; omega) (lz (el C y)) p cap' W h
  rw [vcode_el] at hV
  have hFl := fun b W (hb : Bx W b 0) (h : Lz W p (el C y).length (lz (el C y))) hne => flipall_ok b 0 (by omega) (el C y) (fun i hi => by have := (el_mem.1 hi).1; omega) (by have := el_len C y; omega) p cap' W hb h hne
  have hy32 : y < 4294967296 := Nat.lt_of_lt_of_le hy (Nat.le_trans (Nat.pow_le_pow_right (n := 2) (by omega) (show C ≤ 32 by omega)) (by omega))
  have e0 : flips 0 (el C y) = y := msk_el hy
  rw [e0] at hFl
  have HNb := Lib.hid (fun W => newbits_ok C (by omega) W)
  have HV := Lib.hid hV
  have HFl := Lib.hid hFl
  have HL := Lib.hid hL
  have HM := Lib.hid hM
  obtain ⟨ny, hny⟩ : ∃ n, (el C y).length = n := ⟨_, rfl⟩
  rw [hny] at HV HFl HL ⊢
  have hres := apl_el C r y K
  rw [← hres]
  unfold mv at H ⊢
  clear hV hFl hL hM hb0 e0 hny hres
  go_enter Tryd.func16, Tryd.ntmps16
  go_wp2_with fail
  refine H.out.mono ?_
  rintro e W1 ⟨rfl, hb1⟩
  have HB1 := Lib.hid (HB.out.trans (Joins.below_le hb1 HB.out.size))
  have hx1 := HBx.out.below hb1 (by simp)
  have q0 := hx1.cell 0
  have q1 := hx1.cell 1
  have HX1 := Lib.hid hx1
  clear hb1 hx1
  go_wp2_with fail
  refine (HV.out _ (HL.out.below HB1.out)).mono ?_
  rintro e W2 ⟨rfl, rfl⟩
  go_wp2_with fail
  refine (HNb.out _).mono ?_
  rintro e W2 ⟨rfl, hbx, hb2⟩
  have HB2 := Lib.hid (HB1.out.trans (Joins.below_le hb2 HB1.out.size))
  have HX2 := Lib.hid (HX1.out.below hb2 (Box.lt HX1.out))
  have HBv := Lib.hid hbx
  have HLt1 := Lib.hid (Box.lt HX1.out)
  have HSz1 := Lib.hid HB1.out.size
  obtain ⟨bv, hbv⟩ : ∃ b, W1.heap.size = b := ⟨_, rfl⟩
  rw [hbv] at HBv HLt1 HSz1 ⊢
  clear q0 q1 hbx hb2 hbv
  go_wp2_with fail
  refine (HFl.out bv _ HBv.out (HL.out.below HB2.out) (fun hn g off e => by have := HL.out.blk hn e; have := HSz1.out; omega)).mono ?_
  rintro e W3 ⟨rfl, hb3, hk3⟩
  have hbb : Below bv _ W3 := (hk3.le (B' := bv) (Nat.le_of_lt (Box.lt HBv.out))).below (fun k hk => by cases hk; exact Nat.le_refl _)
  have HB3 := Lib.hid (HB2.out.trans (Joins.below_le hbb HSz1.out))
  have hx3 := HX2.out.below hbb HLt1.out
  have q0 := hx3.cell 0
  have q1 := hx3.cell 1
  have HBv3 := Lib.hid hb3
  clear hb3 hk3 hbb hx3 HBv
  go_wp2_with fail
  go_loopw [9, 33] (fun v j wr => ∃ k : Nat, k ≤ K ∧ j = .int .i64 (k : Int) ∧ Row wr W3.heap.size v (ints (apl C r y k)) ∧ Below W3.heap.size W3 wr) (fun _ j _ => K - (intOf j).toNat)
  case atStart => exact ⟨0, by omega, by first | trivial | rfl, Row.nil _ _, Below.refl _ _⟩
  case round =>
    obtain ⟨k, hk, rfl, hrw, hbe⟩ := hrel
    have HRw := Lib.hid hrw
    have HBe := Lib.hid hbe
    clear q0 q1
    by_cases hlt : k < K
    · have hk1 : (k : Int) < (K : Int) := by omega
      obtain ⟨bM, oM, oc, cpc, rfl, hbM, e1, l1⟩ := HM.out.at_ hlt
      have hB4 := HB3.out.trans (Joins.below_le hbe HB3.out.size)
      have e2 := (hB4.cell (p := ⟨bM, oM + k, none⟩) hbM).trans e1
      have hbv4 := HBv3.out.below hbe (Box.lt HBv3.out)
      have hod := odd_ok bv y hy32 (el C (r k)) (fun i hi => by have := (el_mem.1 hi).1; omega) (by have := el_len C (r k); omega) oc cpc wr hbv4 (l1.below hB4)
      have hst := apl_step C r y k
      have hal := apl_len C r y k
      obtain ⟨q, hq⟩ : ∃ q, odl y (el C (r k)) = q := ⟨_, rfl⟩
      rw [hq] at hod hst
      obtain ⟨n1, hn1⟩ : ∃ n, (el C (r k)).length = n := ⟨_, rfl⟩
      rw [hn1] at hod e2
      have HOd := Lib.hid hod
      obtain ⟨pm, hpm⟩ : ∃ m, (ints (apl C r y k)).length = m := ⟨_, rfl⟩
      obtain ⟨ov, cv, rfl, _⟩ := hrw.shape' hpm
      have HPl := Lib.hid (show (ints (apl C r y k)).length ≤ 1000000 by rw [ints_len]; omega)
      have HSz := Lib.hid hbe.size
      clear e1 l1 hB4 hbv4 hod hal hq hn1 hpm hrw hbe
      cases q with
      | true =>
        rw [if_pos rfl] at hst
        have HSt := Lib.hid hst
        clear hst
        go_wp2_with fail
        refine HOd.out.mono ?_
        rintro e w' ⟨rfl, rfl⟩
        go_wp2_with (at_builtin; refine app_int _ rfl _ _ rfl W3.heap.size _ _ rfl (HRw.out.alloc _) _ (k : Int) rfl (World.cell?_alloc_mark _ #[_] 3 (0, 0) 0) HPl.out (by have := HSz.out; simp; omega) ?_; intro gg cv2 w2 hr2 hbb2 hgg; have HR2 := Lib.hid hr2; have HBB := Lib.hid ((HBe.out.alloc HSz.out _).trans hbb2); clear hr2 hbb2)
        go_roundw
        case rel => exact ⟨k + 1, by omega, by go_num, by rw [HSt.out, ints_snoc]; exact HR2.out, HBB.out⟩
        case measure => simp [intOf]; omega
      | false =>
        rw [if_neg (by simp)] at hst
        have HSt := Lib.hid hst
        clear hst
        go_wp2_with fail
        refine HOd.out.mono ?_
        rintro e w' ⟨rfl, rfl⟩
        go_wp2_with fail
        go_roundw
        case rel => exact ⟨k + 1, by omega, by go_num, by rw [HSt.out]; exact HRw.out, HBe.out⟩
        case measure => simp [intOf]; omega
    · have e : K = k := by omega
      subst e
      have HBf := Lib.hid (HB3.out.trans (Joins.below_le hbe HB3.out.size))
      have HRf := Lib.hid (hrw.le HB3.out.size)
      clear hlt hrw hbe
      go_wp2_with fail
      go_ret2
      exact ⟨_, rfl, HRf.out, HBf.out⟩

end Go.Proofs.YtbefkngeffpokaaDoor
