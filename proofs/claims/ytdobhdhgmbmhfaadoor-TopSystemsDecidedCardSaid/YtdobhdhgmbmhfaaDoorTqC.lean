/- TopSystemsDecided, whatever the matrix and the vectors. -/
import Derived.Test.YtdobhdhgmbmhfaaDoorTpB
import Derived.WalkKit
import Derived.WalkSpells
import Derived.WalkLawsBesides
import Derived.Handy
import Derived.Deep.QuietTactic
import Derived.BigQuiet
import Derived.Outline
import Derived.Laws.BitsAllLaws
import Derived.IntWalk
import Derived.Lib.SmallJoins
import Derived.Lib.Hide
import Derived.Deep.DeepCutAuto
import Derived.LoopTactic
import Derived.Deep.RegionWith
import Derived.Laws.CopyOwn
import Derived.Maps.OwnOps
import Derived.Maps.OwnSet
import Derived.Laws.OwnMore
import Derived.Maps.AppendAt
import Derived.RangeFuncNested
import Derived.RangeFuncBound
import Derived.RangeFuncCalls
import Derived.RangeFuncLeaves
import Derived.RangeFuncBox
import Derived.RangeFuncFrom
import Derived.Shelf.Abstract
import Derived.Shelf.RegionOpen
import Derived.OwnWalkIn
import Derived.TacticsInMore
import Derived.LoopNIn
import Derived.LoopIn
import Derived.Deep.RegionHeld3
import Derived.RegionTactic
import Derived.ChangeAlike
namespace Go.Proofs.YtdobhdhgmbmhfaaDoor
set_option linter.unusedVariables false
set_option linter.unusedSimpArgs false
open Go.RowKit


theorem vfy_sol {C K : Nat} {r : Nat → Nat} (hr : ∀ c, c < K → r c < 2 ^ C) {x b y : Nat} (hx : x < 2 ^ C) (hi : imr K C r x = b) : vfy C K r b y = 18 := by
  unfold vfy
  rw [if_neg]
  rintro ⟨h1, h2⟩
  have h3 : sumr r 0 (el K y) = 0 := by
    rwa [Nat.mod_eq_of_lt (sumr_lt _ _ (Nat.two_pow_pos _) fun j hj => hr j (el_mem.1 hj).1)] at h1
  have h4 := rf_not hx h3
  rw [hi, odl_comm, h2] at h4
  cases h4
theorem vz_two (U : World) (d c K : Nat) (h1 : d < c) (h2 : c < K) : Vz (U.alloc (.cells #[.int .i64 (d : Int), .int .i64 (c : Int)] 3)) (some ⟨U.heap.size, 0, none⟩) 2 K (msk [d, c]) := by
  have e : el K (msk [d, c]) = [d, c] := el_msk (by simp [h1]) (by intro i hi; simp at hi; omega)
  exact ⟨by rw [e]; rfl, by rw [e]; exact vl U [d, c] 2 rfl⟩
theorem vz_one (U : World) (c K : Nat) (h2 : c < K) : Vz (U.alloc (.cells #[.int .i64 (c : Int)] 3)) (some ⟨U.heap.size, 0, none⟩) 1 K (msk [c]) := by
  have e : el K (msk [c]) = [c] := el_msk (by simp) (by intro i hi; simp at hi; omega)
  exact ⟨by rw [e]; rfl, by rw [e]; exact vl U [c] 1 rfl⟩
theorem vz_ne (N x y : Nat) (hN : N ≤ 100) (hx : x < 2 ^ N) (hy : y < 2 ^ N) (hne : x ≠ y) (o p : Option Addr) (n cap m cap' : Nat) (w : World) (hL : Vz w o n N x) (hL' : Vz w p m N y) :
    Calls Tryd.prog 12 #[.slice o n cap, .slice p m cap'] w fun e w' => e = .returned (.bool false) ∧ Below w.heap.size w w' := by
  obtain ⟨rfl, h⟩ := hL
  obtain ⟨rfl, h'⟩ := hL'
  have := equal_any _ _ (by have := el_len N x; omega) (lz (el N x)) (lz (el N y)) o p cap cap' w h h'
  have e : eqb (el N x).length (lz (el N x)) (el N y).length (lz (el N y)) = false := by
    refine decide_eq_false ?_
    rintro ⟨h1, h2⟩
    refine hne (el_inj hx hy (List.ext_getElem h1 fun i hi hi' => ?_))
    have h3 := h2 i hi
    unfold lz at h3
    rw [List.getD_eq_getElem?_getD, List.getD_eq_getElem?_getD, List.getElem?_eq_getElem hi, List.getElem?_eq_getElem hi'] at h3
    have h4 : ((el N x)[i] : Int) = ((el N y)[i] : Int) := by simpa using h3
    omega
  rwa [e] at this
theorem vz_pos' {w : World} {o : Option Addr} {n N y : Nat} (h : Vz w o n N y) (hy : y < 2 ^ N) (h0 : y ≠ 0) : 0 < n := by
  rcases Nat.eq_zero_or_pos n with e | e
  · exact absurd ((el_nil hy).1 (List.eq_nil_of_length_eq_zero (h.1.symm.trans e))) h0
  · exact e
set_option maxRecDepth 100000 in
set_option maxHeartbeats 16000000 in
theorem sysD_ok (C : Int) (o : Option Addr) (K cap : Nat) (oc : Nat → Option Addr) (nc cc : Nat → Nat) (xc : Nat → Nat → Int) (n cp n2 cq : Nat) (f f2 : Nat → Int) (p q : Option Addr) (w : World) (hL : Lv w o K oc nc cc xc) (hz : Lz w p n f) (hz2 : Lz w q n2 f2) (hT : Tb1 w) :
    Calls Tryd.prog 3 #[mv C o K cap, .slice p n cp, .slice q n2 cq] w fun e w' => e = .returned (.bool true) ∧ Below w.heap.size w w' := by
  have hb2 : Below w.heap.size w (w.alloc (.cells #[.int .i64 C, .slice o K cap] 24)) := (Below.refl _ _).alloc (Nat.le_refl _) _
  have HB := Lib.hid hb2
  have XM := Lib.hid (mbox w C o K cap)
  have HT := Lib.hid (hT.here hb2 (by first | (simp; done) | (simp; omega)))
  have LA := Lib.hid (hL.below hb2)
  have HLb := Lib.hid (hz.below hb2)
  have HLx := Lib.hid (hz2.below hb2)
  unfold mv
  clear hL hz hz2 hT hb2
  go_enter Tryd.func3, Tryd.ntmps3
  obtain ⟨W0, hW0⟩ : ∃ W, w.alloc (.cells #[.int .i64 C, .slice o K cap] 24) = W := ⟨_, rfl⟩
  go_wp2_with fail
  rw [hW0] at HB XM HT LA HLb HLx
  clear hW0
  refine (awake3_ok W0 HT.out).mono ?_
  rintro e W1 ⟨rfl, hb⟩
  have hbb := hb
  have HB := Lib.hid (HB.out.trans (Joins.below_le hbb HB.out.size))
  have XM := Lib.hid (XM.out.below hbb XM.out.lt)
  have HT := Lib.hid (HT.out.here hbb)
  have LA := Lib.hid (LA.out.below hbb)
  have HLb := Lib.hid (HLb.out.below hbb)
  have HLx := Lib.hid (HLx.out.below hbb)
  clear hbb hb
  have XM0 := XM.out.cell 0
  have XM1 := XM.out.cell 1
  have XM2 := fun ob => (XM.out.alloc ob).cell 0
  have XM3 := fun ob => (XM.out.alloc ob).cell 1
  go_wp2_with fail
  refine (play_one C o K cap oc nc cc xc 24 W1 LA.out).mono ?_
  rintro e W2 ⟨⟨r0, rfl, hr⟩, hb⟩
  have hbb := hb
  have HR := Lib.hid hr
  have HU := Lib.hid (Below.refl W1.heap.size W1)
  have HB := Lib.hid (HB.out.trans (Joins.below_le hbb HB.out.size))
  have XM := Lib.hid (XM.out.below hbb XM.out.lt)
  have HT := Lib.hid (HT.out.here hbb)
  have LA := Lib.hid (LA.out.below hbb)
  have HLb := Lib.hid (HLb.out.below hbb)
  have HLx := Lib.hid (HLx.out.below hbb)
  have HU := Lib.hid (HU.out.trans (Joins.below_le hbb HU.out.size))
  clear XM0 XM1 XM2 XM3
  clear hbb hb hr LA
  cases r0 with
  | false =>
    go_wp2_with fail
    go_ret
    exact ⟨rfl, HB.out⟩
  | true =>
    obtain ⟨N, r, rfl, hN, hK, hr, hmA⟩ := HR.out rfl
    have M := Lib.hid (hmA.below HU.out)
    have HRr := Lib.hid hr
    clear hmA HR hr HU
    have XM0 := XM.out.cell 0
    have XM1 := XM.out.cell 1
    have XM2 := fun ob => (XM.out.alloc ob).cell 0
    have XM3 := fun ob => (XM.out.alloc ob).cell 1
    by_cases h40 : 20 < n
    · have k1 : (20 : Int) < (n : Int) := by omega
      have k2 : decide (20 < n) = true := decide_eq_true h40
      go_wp2_with fail
      go_ret
      exact ⟨rfl, HB.out⟩
    · have k1 : ¬ (20 : Int) < (n : Int) := by omega
      have k2 : decide (20 < n) = false := decide_eq_false h40
      by_cases h41 : 20 < n2
      · have k3 : (20 : Int) < (n2 : Int) := by omega
        have k4 : decide (20 < n2) = true := decide_eq_true h41
        go_wp2_with fail
        go_ret
        exact ⟨rfl, HB.out⟩
      · have k3 : ¬ (20 : Int) < (n2 : Int) := by omega
        have k4 : decide (20 < n2) = false := decide_eq_false h41
        obtain ⟨vb, hvb⟩ : ∃ v, vcode (K : Int) n f = v := ⟨_, rfl⟩
        have hV1 := rvec_below (K : Int) n (by omega) f p cp W2 HLb.out
        rw [hvb] at hV1
        have HV1 := Lib.hid hV1
        clear hV1
        by_cases hv0 : vb = 0
        · subst hv0
          obtain ⟨bb, hbb, hvz⟩ := vz_open hvb
          have VB := Lib.hid (hvz W2 p HLb.out)
          clear hvz hvb HLb
          go_wp2_with fail
          refine (HV1.out).mono ?_
          rintro e W3 ⟨rfl, hb⟩
          have hbc := hb
          have HB := Lib.hid (HB.out.trans (Joins.below_le hbc HB.out.size))
          have XM := Lib.hid (XM.out.below hbc XM.out.lt)
          have HT := Lib.hid (HT.out.here hbc)
          have M := Lib.hid (M.out.below hbc)
          have VB := Lib.hid (VB.out.below hbc)
          have HLx := Lib.hid (HLx.out.below hbc)
          clear XM0 XM1 XM2 XM3
          clear hbc hb
          have XM0 := XM.out.cell 0
          have XM1 := XM.out.cell 1
          have XM2 := fun ob => (XM.out.alloc ob).cell 0
          have XM3 := fun ob => (XM.out.alloc ob).cell 1
          obtain ⟨vx, hvx⟩ : ∃ v, vcode (N : Int) n2 f2 = v := ⟨_, rfl⟩
          have hV2 := rvec_below (N : Int) n2 (by omega) f2 q cq W3 HLx.out
          rw [hvx] at hV2
          have HV2 := Lib.hid hV2
          clear hV2
          by_cases hv1 : vx = 0
          · subst hv1
            obtain ⟨xx, hxx, hvz⟩ := vz_open hvx
            have VX := Lib.hid (hvz W3 q HLx.out)
            clear hvz hvx HLx
            go_wp2_with fail
            refine (HV2.out).mono ?_
            rintro e W4 ⟨rfl, hb⟩
            have hbc := hb
            have HB := Lib.hid (HB.out.trans (Joins.below_le hbc HB.out.size))
            have XM := Lib.hid (XM.out.below hbc XM.out.lt)
            have HT := Lib.hid (HT.out.here hbc)
            have M := Lib.hid (M.out.below hbc)
            have VB := Lib.hid (VB.out.below hbc)
            have VX := Lib.hid (VX.out.below hbc)
            clear XM0 XM1 XM2 XM3
            clear hbc hb
            have XM0 := XM.out.cell 0
            have XM1 := XM.out.cell 1
            have XM2 := fun ob => (XM.out.alloc ob).cell 0
            have XM3 := fun ob => (XM.out.alloc ob).cell 1
            clear XM0 XM1 XM2 XM3
            clear HV1 HV2
            have XM0 := XM.out.cell 0
            have XM1 := XM.out.cell 1
            have XM2 := fun ob => (XM.out.alloc ob).cell 0
            have XM3 := fun ob => (XM.out.alloc ob).cell 1
            go_wp2_with fail
            refine (vz_solve N K (by omega) r HRr.out bb hbb o p cap n cp W4 M.out VB.out HT.out).mono ?_
            rintro e W5 (⟨s, xo, xn, xk, rfl, hv, hs, himg, hb⟩ | ⟨yy, fo, fn, fk, rfl, hv, hrf, hy, hb⟩)
            · have hbc := hb
              have VS := Lib.hid hv
              have HB := Lib.hid (HB.out.trans (Joins.below_le hbc HB.out.size))
              have XM := Lib.hid (XM.out.below hbc XM.out.lt)
              have HT := Lib.hid (HT.out.here hbc)
              have M := Lib.hid (M.out.below hbc)
              have VB := Lib.hid (VB.out.below hbc)
              have VX := Lib.hid (VX.out.below hbc)
              clear XM0 XM1 XM2 XM3
              clear hbc hb hv
              have XM0 := XM.out.cell 0
              have XM1 := XM.out.cell 1
              have XM2 := fun ob => (XM.out.alloc ob).cell 0
              have XM3 := fun ob => (XM.out.alloc ob).cell 1
              go_wp2_with fail
              have hal : Below W5.heap.size W5 W5 := (Below.refl _ _)
              refine (vz_apply N K (by omega) (by omega) r o cap xx hxx q n2 cq W5 M.out VX.out).mono ?_
              rintro e W6 ⟨io, ni, ic, rfl, hv, hb⟩
              have hbb : Below W5.heap.size W5 W6 := hal.trans (hb.mono hal.size)
              have VI := Lib.hid (hv)
              have HB := Lib.hid (HB.out.trans (Joins.below_le hbb HB.out.size))
              have XM := Lib.hid (XM.out.below hbb XM.out.lt)
              have HT := Lib.hid (HT.out.here hbb)
              have M := Lib.hid (M.out.below hbb)
              have VB := Lib.hid (VB.out.below hbb)
              have VX := Lib.hid (VX.out.below hbb)
              have VS := Lib.hid (VS.out.below hbb)
              clear XM0 XM1 XM2 XM3
              clear hal hbb hb hv
              have HVf := Lib.hid (fun V (hV : Below W6.heap.size W6 V) (q : Option Addr) (m cq yy : Nat) (hy : Vz V q m K yy) => by
                have h := vz_verify N K (by omega) (by omega) r HRr.out bb yy hbb o p q cap n cp m cq V (HT.out.here hV) (M.out.below hV) (VB.out.below hV) hy
                rw [vfy_sol HRr.out hs himg] at h
                exact h)
              have XM0 := XM.out.cell 0
              have XM1 := XM.out.cell 1
              have XM2 := fun ob => (XM.out.alloc ob).cell 0
              have XM3 := fun ob => (XM.out.alloc ob).cell 1
              go_wp2_with fail
              go_loopw [84] (fun j wr => ∃ c : Nat, c ≤ K ∧ j = .int .i64 (c : Int) ∧ Below W6.heap.size W6 wr) (fun j _ => K - (intOf j).toNat)
              case atStart => exact ⟨0, by omega, by first | trivial | rfl, Below.refl _ _⟩
              case round =>
                obtain ⟨c, hc, rfl, hbe⟩ := hrel
                have HBe := Lib.hid hbe
                clear XM0 XM1 XM2 XM3
                by_cases hlt : c < K
                · have hc1 : (c : Int) < (K : Int) := by omega
                  clear hbe
                  go_wp2_with fail
                  go_loopw [88] (fun j wl => ∃ d : Nat, d ≤ c ∧ j = .int .i64 (d : Int) ∧ Below wr.heap.size wr wl) (fun j _ => c - (intOf j).toNat)
                  case atStart => exact ⟨0, by omega, by first | trivial | rfl, Below.refl _ _⟩
                  case round =>
                    obtain ⟨d, hd, rfl, hbl⟩ := hrel
                    have hbw := HBe.out.trans (hbl.mono HBe.out.size)
                    have hX := XM.out.below hbw XM.out.lt
                    have X0 := hX.cell 0
                    have X1 := hX.cell 1
                    have X2 := fun ob => (hX.alloc ob).cell 0
                    have X3 := fun ob => (hX.alloc ob).cell 1
                    have HBl := Lib.hid hbw
                    have HBi := Lib.hid hbl
                    clear hX hbl hbw
                    by_cases hld : d < c
                    · have hd1 : (d : Int) < (c : Int) := by omega
                      have hal : Below wr.heap.size wr (wr.alloc (.cells #[.int .i64 (d : Int), .int .i64 (c : Int)] 3)) := al1 _ _
                      have HV2 := Lib.hid (HVf.out _ (HBl.out.trans (Joins.below_le hal HBl.out.size)) _ 2 2 _ (vz_two wr d c K hld hlt))
                      have HAl := Lib.hid (HBl.out.trans (Joins.below_le hal HBl.out.size))
                      clear hal
                      go_wp2_with fail
                      refine HV2.out.mono ?_
                      rintro e w4 ⟨rfl, hb4⟩
                      have HB4 := Lib.hid (HAl.out.trans (Joins.below_le hb4 HAl.out.size))
                      have HB5 := Lib.hid (al1 wr (.cells #[.int .i64 (d : Int), .int .i64 (c : Int)] 3) |>.trans (hb4.mono (by simp)))
                      clear hb4
                      go_wp2_with fail
                      go_roundw
                      case rel => exact ⟨d + 1, by omega, by go_num, HBi.out.trans (Joins.below_le HB5.out HBi.out.size)⟩
                      case measure => simp [intOf]; omega
                    · have e : c = d := by omega
                      subst e
                      have hal : Below wr.heap.size wr (wr.alloc (.cells #[.int .i64 (c : Int)] 3)) := al1 _ _
                      have HV2 := Lib.hid (HVf.out _ (HBl.out.trans (Joins.below_le hal HBl.out.size)) _ 1 1 _ (vz_one wr c K hlt))
                      have HAl := Lib.hid (HBl.out.trans (Joins.below_le hal HBl.out.size))
                      clear hal hld
                      go_wp2_with fail
                      refine HV2.out.mono ?_
                      rintro e w4 ⟨rfl, hb4⟩
                      have HB4 := Lib.hid (HAl.out.trans (Joins.below_le hb4 HAl.out.size))
                      clear hb4
                      go_wp2_with fail
                      go_roundw
                      case rel => exact ⟨c + 1, by omega, by go_num, HB4.out⟩
                      case measure => simp [intOf]; omega
                · have e : c = K := by omega
                  subst e
                  clear hlt
                  have hX := XM.out.below hbe XM.out.lt
                  have HXr := Lib.hid hX
                  have HZ : Hid (∀ V, Below wr.heap.size wr V → Below wr.heap.size wr V ∧ V.cell? ⟨w.heap.size, 0, none⟩ = some (.int .i64 (N : Int)) ∧ V.cell? ⟨w.heap.size, 1, none⟩ = some (.slice o c cap)) := Lib.hid fun V hV => ⟨hV, (HXr.out.below hV HXr.out.lt).cell 0, (HXr.out.below hV HXr.out.lt).cell 1⟩
                  have HW := Lib.hid (fun V (hV : Below wr.heap.size wr V) => (HB.out.trans (hbe.mono HB.out.size)).trans (hV.mono (Nat.le_trans HB.out.size hbe.size)))
                  have HPl := Lib.hid (fun V (hV : Below wr.heap.size wr V) => vz_plus N s xx (by omega) xo q xn xk n2 cq V (VS.out.below (hbe.trans (hV.mono hbe.size))) (VX.out.below (hbe.trans (hV.mono hbe.size))))
                  have hap := fun V (hV : Below wr.heap.size wr V) oo nn c2 (hv : Vz V oo nn N (s ^^^ xx)) => vz_apply N c (by omega) (by omega) r o cap (s ^^^ xx) (Nat.xor_lt_two_pow hs hxx) oo nn c2 V (M.out.below (hbe.trans (hV.mono hbe.size))) hv
                  rw [imr_add, himg] at hap
                  have HAp := Lib.hid hap
                  have HEq := Lib.hid (fun V (hV : Below wr.heap.size wr V) => (⟨VI.out.below (hbe.trans (hV.mono hbe.size)), VB.out.below (hbe.trans (hV.mono hbe.size))⟩ : Vz V io ni c (imr c N r xx) ∧ Vz V p n c bb))
                  clear hap hX hbe
                  go_wp2_with fail
                  go_region_held3 (fun V => Below wr.heap.size wr V ∧ V.cell? ⟨w.heap.size, 0, none⟩ = some (.int .i64 (N : Int)) ∧ V.cell? ⟨w.heap.size, 1, none⟩ = some (.slice o c cap)) (first | exact HZ.out _ (below_dn 1 (Below.refl _ _)) | exact HZ.out _ (Below.refl _ _) | exact HZ.out _ (by assumption)) (first
                    | (go_at_call 13; refine (HPl.out _ (by first | assumption | exact And.left (by assumption) | exact Below.refl _ _ | exact below_dn 1 (Below.refl _ _))).mono ?_; rintro e y ⟨po, pn, pc, rfl, hvp, hz1⟩; have kk1 : Below wr.heap.size wr y := Below.trans (by first | assumption | exact And.left (by assumption) | exact Below.refl _ _ | exact below_dn 1 (Below.refl _ _)) (Joins.below_le hz1 (Below.size (by first | assumption | exact And.left (by assumption) | exact Below.refl _ _ | exact below_dn 1 (Below.refl _ _)))))
                    | (go_at_call 10; refine (HAp.out _ (by first | assumption | exact And.left (by assumption) | exact Below.refl _ _ | exact below_dn 1 (Below.refl _ _)) _ _ _ (by first | assumption | exact Vz.below (by assumption) (below_dn 1 (Below.refl _ _)))).mono ?_; rintro e y ⟨ao, an, ac, rfl, hva, hz2⟩; have kk2 : Below wr.heap.size wr y := Below.trans (by first | assumption | exact And.left (by assumption) | exact Below.refl _ _ | exact below_dn 1 (Below.refl _ _)) (Joins.below_le hz2 (Below.size (by first | assumption | exact And.left (by assumption) | exact Below.refl _ _ | exact below_dn 1 (Below.refl _ _))))))
                  all_goals
                    by_cases hE : imr c N r xx = bb
                    · rw [hE, Nat.xor_self] at hva
                      obtain rfl := hva.len0
                      have heq := HEq.out _ (by assumption)
                      rw [hE] at heq
                      have HE2 := Lib.hid (fun V (hV : Below _ _ V) => vz_equal c bb (by omega) io p ni ic n cp V (heq.1.below hV) (heq.2.below hV))
                      clear heq
                      go_wp2_with fail
                      refine (HE2.out _ (Below.refl _ _)).mono ?_
                      rintro e w' ⟨rfl, hb⟩
                      have kk3 : Below wr.heap.size wr w' := Below.trans (by assumption) (Joins.below_le hb (Below.size (by assumption)))
                      go_wp2_with fail
                      go_ret
                      exact ⟨rfl, HW.out _ kk3⟩
                    · have hz0 : bb ^^^ imr c N r xx ≠ 0 := fun g => hE (xor_eq_zero' g).symm
                      have hpos := vz_pos' hva (Nat.xor_lt_two_pow hbb (imr_lt c N r xx)) hz0
                      have p1 : (0 : Int) < (an : Int) := by omega
                      have p2 : ¬ (an : Int) = 0 := by omega
                      have p3 : ¬ an = 0 := by omega
                      have p4 : ((an : Int) == 0) = false := by rw [beq_eq_false_iff_ne]; exact p2
                      have heq := HEq.out _ (by assumption)
                      have HE2 := Lib.hid (fun V (hV : Below _ _ V) => vz_ne c (imr c N r xx) bb (by omega) (imr_lt c N r xx) hbb hE io p ni ic n cp V (heq.1.below hV) (heq.2.below hV))
                      clear heq
                      go_wp2_with fail
                      refine (HE2.out _ (Below.refl _ _)).mono ?_
                      rintro e w' ⟨rfl, hb⟩
                      have kk3 : Below wr.heap.size wr w' := Below.trans (by assumption) (Joins.below_le hb (Below.size (by assumption)))
                      go_wp2_with fail
                      go_ret
                      exact ⟨rfl, HW.out _ kk3⟩
            · have hbc := hb
              have VY := Lib.hid hv
              have HB := Lib.hid (HB.out.trans (Joins.below_le hbc HB.out.size))
              have XM := Lib.hid (XM.out.below hbc XM.out.lt)
              have HT := Lib.hid (HT.out.here hbc)
              have M := Lib.hid (M.out.below hbc)
              have VB := Lib.hid (VB.out.below hbc)
              have VX := Lib.hid (VX.out.below hbc)
              clear XM0 XM1 XM2 XM3
              clear hbc hb hv
              have XM0 := XM.out.cell 0
              have XM1 := XM.out.cell 1
              have XM2 := fun ob => (XM.out.alloc ob).cell 0
              have XM3 := fun ob => (XM.out.alloc ob).cell 1
              go_wp2_with fail
              have hal : Below W5.heap.size W5 W5 := (Below.refl _ _)
              refine (vz_apply N K (by omega) (by omega) r o cap xx hxx q n2 cq W5 M.out VX.out).mono ?_
              rintro e W6 ⟨io, ni, ic, rfl, hv, hb⟩
              have hbb : Below W5.heap.size W5 W6 := hal.trans (hb.mono hal.size)
              have VI := Lib.hid (hv)
              have HB := Lib.hid (HB.out.trans (Joins.below_le hbb HB.out.size))
              have XM := Lib.hid (XM.out.below hbb XM.out.lt)
              have HT := Lib.hid (HT.out.here hbb)
              have M := Lib.hid (M.out.below hbb)
              have VB := Lib.hid (VB.out.below hbb)
              have VX := Lib.hid (VX.out.below hbb)
              have VY := Lib.hid (VY.out.below hbb)
              clear XM0 XM1 XM2 XM3
              clear hal hbb hb hv
              have hVg := vz_verify N K (by omega) (by omega) r HRr.out bb yy hbb o p fo cap n cp fn fk W6 HT.out M.out VB.out VY.out
              rw [vfy_rf hrf] at hVg
              have HVg := Lib.hid hVg
              have hne : imr K N r xx ≠ bb := fun g => by
                have h3 := rf_not (C := N) (K := K) (r := r) hxx hrf.1
                rw [g] at h3
                exact Bool.false_ne_true (h3.symm.trans hrf.2)
              have HNe := Lib.hid hne
              clear hVg hne hrf
              have XM0 := XM.out.cell 0
              have XM1 := XM.out.cell 1
              have XM2 := fun ob => (XM.out.alloc ob).cell 0
              have XM3 := fun ob => (XM.out.alloc ob).cell 1
              go_wp2_with fail
              have hal : Below W6.heap.size W6 W6 := (Below.refl _ _)
              refine (HVg.out).mono ?_
              rintro e W7 ⟨rfl, hb⟩
              have hbb : Below W6.heap.size W6 W7 := hal.trans (hb.mono hal.size)
              have HB := Lib.hid (HB.out.trans (Joins.below_le hbb HB.out.size))
              have XM := Lib.hid (XM.out.below hbb XM.out.lt)
              have HT := Lib.hid (HT.out.here hbb)
              have M := Lib.hid (M.out.below hbb)
              have VB := Lib.hid (VB.out.below hbb)
              have VX := Lib.hid (VX.out.below hbb)
              have VY := Lib.hid (VY.out.below hbb)
              have VI := Lib.hid (VI.out.below hbb)
              clear XM0 XM1 XM2 XM3
              clear hal hbb hb
              have XM0 := XM.out.cell 0
              have XM1 := XM.out.cell 1
              have XM2 := fun ob => (XM.out.alloc ob).cell 0
              have XM3 := fun ob => (XM.out.alloc ob).cell 1
              go_wp2_with fail
              have hal : Below W7.heap.size W7 W7 := (Below.refl _ _)
              refine (vz_ne K (imr K N r xx) bb (by omega) (imr_lt K N r xx) hbb HNe.out io p ni ic n cp W7 VI.out VB.out).mono ?_
              rintro e W8 ⟨rfl, hb⟩
              have hbb : Below W7.heap.size W7 W8 := hal.trans (hb.mono hal.size)
              have HB := Lib.hid (HB.out.trans (Joins.below_le hbb HB.out.size))
              have XM := Lib.hid (XM.out.below hbb XM.out.lt)
              have HT := Lib.hid (HT.out.here hbb)
              have M := Lib.hid (M.out.below hbb)
              have VB := Lib.hid (VB.out.below hbb)
              have VX := Lib.hid (VX.out.below hbb)
              have VY := Lib.hid (VY.out.below hbb)
              have VI := Lib.hid (VI.out.below hbb)
              clear XM0 XM1 XM2 XM3
              clear hal hbb hb
              go_wp2_with fail
              go_ret
              exact ⟨rfl, HB.out⟩
          · have g1 : (vx != 0) = true := by rw [bne_iff_ne]; exact hv1
            go_wp2_with fail
            refine (HV2.out).mono ?_
            rintro e W4 ⟨rfl, hb⟩
            have hbc := hb
            have HB := Lib.hid (HB.out.trans (Joins.below_le hbc HB.out.size))
            have XM := Lib.hid (XM.out.below hbc XM.out.lt)
            have HT := Lib.hid (HT.out.here hbc)
            have M := Lib.hid (M.out.below hbc)
            have VB := Lib.hid (VB.out.below hbc)
            have HLx := Lib.hid (HLx.out.below hbc)
            clear XM0 XM1 XM2 XM3
            clear hbc hb
            have XM0 := XM.out.cell 0
            have XM1 := XM.out.cell 1
            have XM2 := fun ob => (XM.out.alloc ob).cell 0
            have XM3 := fun ob => (XM.out.alloc ob).cell 1
            go_wp2_with fail
            go_ret
            exact ⟨rfl, HB.out⟩
        · have g1 : (vb != 0) = true := by rw [bne_iff_ne]; exact hv0
          go_wp2_with fail
          refine (HV1.out).mono ?_
          rintro e W3 ⟨rfl, hb⟩
          have hbc := hb
          have HB := Lib.hid (HB.out.trans (Joins.below_le hbc HB.out.size))
          have XM := Lib.hid (XM.out.below hbc XM.out.lt)
          have HT := Lib.hid (HT.out.here hbc)
          have M := Lib.hid (M.out.below hbc)
          have HLb := Lib.hid (HLb.out.below hbc)
          have HLx := Lib.hid (HLx.out.below hbc)
          clear XM0 XM1 XM2 XM3
          clear hbc hb
          have XM0 := XM.out.cell 0
          have XM1 := XM.out.cell 1
          have XM2 := fun ob => (XM.out.alloc ob).cell 0
          have XM3 := fun ob => (XM.out.alloc ob).cell 1
          go_wp2_with fail
          go_ret
          exact ⟨rfl, HB.out⟩

end Go.Proofs.YtdobhdhgmbmhfaaDoor
