/- MatrixDecides, whatever the matrix and the vectors. -/
import Derived.Test.YtbefkngeffpokaaDoorMyZ
import Derived.WalkKit
import Derived.WalkSpells
import Derived.WalkLawsBesides
import Derived.Handy
import Derived.Deep.QuietTactic
import Derived.BigQuiet
import Derived.Outline
import Derived.Laws.BitsAllLaws
import Derived.IntWalk
import Derived.Lib.SmallJoins
import Derived.Lib.Hide
import Derived.Deep.DeepCutAuto
import Derived.LoopTactic
import Derived.Deep.RegionWith
import Derived.Laws.CopyOwn
import Derived.Maps.OwnOps
import Derived.Maps.OwnSet
import Derived.Laws.OwnMore
import Derived.Maps.AppendAt
import Derived.RangeFuncNested
import Derived.RangeFuncBound
import Derived.RangeFuncCalls
import Derived.RangeFuncLeaves
import Derived.RangeFuncBox
import Derived.RangeFuncFrom
import Derived.Shelf.Abstract
import Derived.Shelf.RegionOpen
import Derived.OwnWalkIn
import Derived.TacticsInMore
import Derived.LoopNIn
import Derived.LoopIn
import Derived.Deep.RegionHeld3
import Derived.RegionTactic
import Derived.ChangeAlike
namespace Go.Proofs.YtbefkngeffpokaaDoor
set_option linter.unusedVariables false
set_option linter.unusedSimpArgs false
open Go.RowKit


set_option maxRecDepth 100000 in
set_option maxHeartbeats 16000000 in
theorem decides_ok (C : Int) (o : Option Addr) (K cap : Nat) (oc : Nat → Option Addr) (nc cc : Nat → Nat) (xc : Nat → Nat → Int) (n cp n2 cq : Nat) (f f2 : Nat → Int) (p q : Option Addr) (w : World) (hL : Lv w o K oc nc cc xc) (hz : Lz w p n f) (hz2 : Lz w q n2 f2) (hT : Tb1 w) :
    Calls Tryd.prog 10 #[mv C o K cap, .slice p n cp, .slice q n2 cq] w fun e w' => e = .returned (.bool true) ∧ Below w.heap.size w w' := by
  have hb2 : Below w.heap.size w ((w.alloc (.cells #[.int .i64 C, .slice o K cap] 24)).alloc (.cells #[.int .i64 C, .slice o K cap] 24)) := ((Below.refl _ _).alloc (Nat.le_refl _) _).alloc (by simp) _
  have HFw := Lib.hid (few_allq 1 (by omega) (w.heap.size + 1) (fun _ => C) (fun _ => o) (fun _ => K) (fun _ => cap) _ (by have h := mats_one (w.alloc (.cells #[.int .i64 C, .slice o K cap] 24)) C o K cap; rwa [World.size_alloc] at h) (fun _ => FewQ C K nc) (fun c hc W hW => few_q C K o cap oc nc cc xc W ((hL.below hb2).below hW)))
  have HB0 := Lib.hid hb2
  have HBx := Lib.hid ((mbox w C o K cap).alloc (.cells #[.int .i64 C, .slice o K cap] 24))
  have HT := Lib.hid hT
  have HSt := Lib.hid (fun (hq : FewQ C K nc) W (hW : Below w.heap.size w W) => ((mst_of hq hL).below hW : Mst W C o K cap))
  have HLb := Lib.hid hz
  have HLx := Lib.hid hz2
  unfold mv
  clear hL hT hb2 hz hz2
  go_enter Tryd.func10, Tryd.ntmps10
  go_wp2_with fail
  refine HFw.out.mono ?_
  rintro e W1 ⟨⟨r0, rfl, hr⟩, hb1⟩
  have HB := Lib.hid (HB0.out.trans (Joins.below_le hb1 HB0.out.size))
  have XM := Lib.hid (HBx.out.below hb1 HBx.out.lt)
  have HR := Lib.hid hr
  have HT := Lib.hid (HT.out.here HB.out XM.out.lt)
  have HLb := Lib.hid (HLb.out.below HB.out)
  have HLx := Lib.hid (HLx.out.below HB.out)
  clear hb1 hr HBx HFw HB0
  cases r0 with
  | false =>
    have HA := Lib.hid (awake_ok W1 HT.out)
    go_wp2_with fail
    refine HA.out.mono ?_
    rintro e w' ⟨rfl, hb⟩
    have HE := Lib.hid (HB.out.trans (hb.mono HB.out.size))
    clear hb
    go_wp2_with fail
    go_ret
    exact ⟨rfl, HE.out⟩
  | true =>
    rcases HSt.out (HR.out rfl 0 (by omega)) W1 HB.out with ⟨c, h0, h1⟩ | ⟨N, r, rfl, hN, hK, hr, hmx⟩
    · have HC := Lib.hid (h1 W1 (Below.refl _ _)).2
      have g1 : (c != 0) = true := by rw [bne_iff_ne]; exact h0
      unfold mv at HC
      clear h0 h1 HSt HR
      have XM0 := XM.out.cell 0
      have XM1 := XM.out.cell 1
      have XM2 := fun ob => (XM.out.alloc ob).cell 0
      have XM3 := fun ob => (XM.out.alloc ob).cell 1
      go_wp2_with fail
      have hal : Below W1.heap.size W1 W1 := (Below.refl _ _)
      refine (HC.out).mono ?_
      rintro e W2 ⟨rfl, hb⟩
      have hbb : Below W1.heap.size W1 W2 := hal.trans (hb.mono hal.size)
      have HB := Lib.hid (HB.out.trans (Joins.below_le hbb HB.out.size))
      have XM := Lib.hid (XM.out.below hbb XM.out.lt)
      have HT := Lib.hid (HT.out.here hbb)
      clear XM0 XM1 XM2 XM3
      clear hal hbb hb
      have XM0 := XM.out.cell 0
      have XM1 := XM.out.cell 1
      have XM2 := fun ob => (XM.out.alloc ob).cell 0
      have XM3 := fun ob => (XM.out.alloc ob).cell 1
      have HA := Lib.hid (awake_ok W2 HT.out)
      go_wp2_with fail
      refine HA.out.mono ?_
      rintro e w' ⟨rfl, hb⟩
      have HE := Lib.hid (HB.out.trans (hb.mono HB.out.size))
      clear hb
      go_wp2_with fail
      go_ret
      exact ⟨rfl, HE.out⟩
    · have HC := Lib.hid (rcheck_mx N K (by omega) (by omega) r o cap W1 hmx)
      have HRr := Lib.hid hr
      have M := Lib.hid hmx
      unfold mv at HC
      clear hmx hr HSt HR
      have XM0 := XM.out.cell 0
      have XM1 := XM.out.cell 1
      have XM2 := fun ob => (XM.out.alloc ob).cell 0
      have XM3 := fun ob => (XM.out.alloc ob).cell 1
      by_cases h40 : 40 < n
      · have k1 : (40 : Int) < (n : Int) := by omega
        have k2 : decide (40 < n) = true := decide_eq_true h40
        go_wp2_with fail
        have hal : Below W1.heap.size W1 W1 := Below.refl _ _
        refine (HC.out).mono ?_
        rintro e W2 ⟨rfl, hb⟩
        have hbb : Below W1.heap.size W1 W2 := hal.trans (hb.mono hal.size)
        have HB := Lib.hid (HB.out.trans (Joins.below_le hbb HB.out.size))
        have XM := Lib.hid (XM.out.below hbb XM.out.lt)
        have HT := Lib.hid (HT.out.here hbb)
        have M := Lib.hid (M.out.below hbb)
        have HLb := Lib.hid (HLb.out.below hbb)
        have HLx := Lib.hid (HLx.out.below hbb)
        clear XM0 XM1 XM2 XM3
        clear hal hbb hb
        have XM0 := XM.out.cell 0
        have XM1 := XM.out.cell 1
        have XM2 := fun ob => (XM.out.alloc ob).cell 0
        have XM3 := fun ob => (XM.out.alloc ob).cell 1
        have HA := Lib.hid (awake_ok W2 HT.out)
        go_wp2_with fail
        refine HA.out.mono ?_
        rintro e w' ⟨rfl, hb⟩
        have HE := Lib.hid (HB.out.trans (hb.mono HB.out.size))
        clear hb
        go_wp2_with fail
        go_ret
        exact ⟨rfl, HE.out⟩
      · have k1 : ¬ (40 : Int) < (n : Int) := by omega
        have k2 : decide (40 < n) = false := decide_eq_false h40
        by_cases h41 : 40 < n2
        · have k3 : (40 : Int) < (n2 : Int) := by omega
          have k4 : decide (40 < n2) = true := decide_eq_true h41
          go_wp2_with fail
          have hal : Below W1.heap.size W1 W1 := Below.refl _ _
          refine (HC.out).mono ?_
          rintro e W2 ⟨rfl, hb⟩
          have hbb : Below W1.heap.size W1 W2 := hal.trans (hb.mono hal.size)
          have HB := Lib.hid (HB.out.trans (Joins.below_le hbb HB.out.size))
          have XM := Lib.hid (XM.out.below hbb XM.out.lt)
          have HT := Lib.hid (HT.out.here hbb)
          have M := Lib.hid (M.out.below hbb)
          have HLb := Lib.hid (HLb.out.below hbb)
          have HLx := Lib.hid (HLx.out.below hbb)
          clear XM0 XM1 XM2 XM3
          clear hal hbb hb
          have XM0 := XM.out.cell 0
          have XM1 := XM.out.cell 1
          have XM2 := fun ob => (XM.out.alloc ob).cell 0
          have XM3 := fun ob => (XM.out.alloc ob).cell 1
          have HA := Lib.hid (awake_ok W2 HT.out)
          go_wp2_with fail
          refine HA.out.mono ?_
          rintro e w' ⟨rfl, hb⟩
          have HE := Lib.hid (HB.out.trans (hb.mono HB.out.size))
          clear hb
          go_wp2_with fail
          go_ret
          exact ⟨rfl, HE.out⟩
        · have k3 : ¬ (40 : Int) < (n2 : Int) := by omega
          have k4 : decide (40 < n2) = false := decide_eq_false h41
          go_wp2_with fail
          have hal : Below W1.heap.size W1 W1 := Below.refl _ _
          refine (HC.out).mono ?_
          rintro e W2 ⟨rfl, hb⟩
          have hbb : Below W1.heap.size W1 W2 := hal.trans (hb.mono hal.size)
          have HB := Lib.hid (HB.out.trans (Joins.below_le hbb HB.out.size))
          have XM := Lib.hid (XM.out.below hbb XM.out.lt)
          have HT := Lib.hid (HT.out.here hbb)
          have M := Lib.hid (M.out.below hbb)
          have HLb := Lib.hid (HLb.out.below hbb)
          have HLx := Lib.hid (HLx.out.below hbb)
          clear XM0 XM1 XM2 XM3
          clear hal hbb hb
          have XM0 := XM.out.cell 0
          have XM1 := XM.out.cell 1
          have XM2 := fun ob => (XM.out.alloc ob).cell 0
          have XM3 := fun ob => (XM.out.alloc ob).cell 1
          obtain ⟨vb, hvb⟩ : ∃ v, vcode (K : Int) n f = v := ⟨_, rfl⟩
          have hV1 := rvec_below (K : Int) n (by omega) f p cp W2 HLb.out
          rw [hvb] at hV1
          have HV1 := Lib.hid hV1
          clear hV1
          by_cases hv0 : vb = 0
          · subst hv0
            obtain ⟨bb, hbb, hvz⟩ := vz_open hvb
            have VB := Lib.hid (hvz W2 p HLb.out)
            clear hvz hvb HLb
            go_wp2_with fail
            have hal : Below W2.heap.size W2 W2 := Below.refl _ _
            refine (HV1.out).mono ?_
            rintro e W3 ⟨rfl, hb⟩
            have hbc : Below W2.heap.size W2 W3 := hal.trans (hb.mono hal.size)
            have HB := Lib.hid (HB.out.trans (Joins.below_le hbc HB.out.size))
            have XM := Lib.hid (XM.out.below hbc XM.out.lt)
            have HT := Lib.hid (HT.out.here hbc)
            have M := Lib.hid (M.out.below hbc)
            have HLx := Lib.hid (HLx.out.below hbc)
            have VB := Lib.hid (VB.out.below hbc)
            clear XM0 XM1 XM2 XM3
            clear hal hbc hb
            have XM0 := XM.out.cell 0
            have XM1 := XM.out.cell 1
            have XM2 := fun ob => (XM.out.alloc ob).cell 0
            have XM3 := fun ob => (XM.out.alloc ob).cell 1
            obtain ⟨vx, hvx⟩ : ∃ v, vcode (N : Int) n2 f2 = v := ⟨_, rfl⟩
            have hV2 := rvec_below (N : Int) n2 (by omega) f2 q cq W3 HLx.out
            rw [hvx] at hV2
            have HV2 := Lib.hid hV2
            clear hV2
            by_cases hv1 : vx = 0
            · subst hv1
              obtain ⟨xx, hxx, hvz⟩ := vz_open hvx
              have VX := Lib.hid (hvz W3 q HLx.out)
              clear hvz hvx HLx
              go_wp2_with fail
              have hal : Below W3.heap.size W3 W3 := Below.refl _ _
              refine (HV2.out).mono ?_
              rintro e W4 ⟨rfl, hb⟩
              have hbc : Below W3.heap.size W3 W4 := hal.trans (hb.mono hal.size)
              have HB := Lib.hid (HB.out.trans (Joins.below_le hbc HB.out.size))
              have XM := Lib.hid (XM.out.below hbc XM.out.lt)
              have HT := Lib.hid (HT.out.here hbc)
              have M := Lib.hid (M.out.below hbc)
              have VB := Lib.hid (VB.out.below hbc)
              have VX := Lib.hid (VX.out.below hbc)
              clear XM0 XM1 XM2 XM3
              clear hal hbc hb
              have XM0 := XM.out.cell 0
              have XM1 := XM.out.cell 1
              have XM2 := fun ob => (XM.out.alloc ob).cell 0
              have XM3 := fun ob => (XM.out.alloc ob).cell 1
              have HSv := Lib.hid (vz_solve N K (by omega) r HRr.out bb hbb o p cap n cp W4 M.out VB.out HT.out)
              go_wp2_with fail
              refine HSv.out.mono ?_
              clear HSv HV1 HV2 HC
              rintro e W5 (⟨s, xo, ns, xc', rfl, hv, hs, himg, hb⟩ | ⟨yy, fo, ny, fc, rfl, hv, hrf, hy, hb⟩)
              · have hbc : Below W4.heap.size W4 W5 := hb
                have VS := Lib.hid hv
                have HB := Lib.hid (HB.out.trans (Joins.below_le hbc HB.out.size))
                have XM := Lib.hid (XM.out.below hbc XM.out.lt)
                have HT := Lib.hid (HT.out.here hbc)
                have M := Lib.hid (M.out.below hbc)
                have VB := Lib.hid (VB.out.below hbc)
                have VX := Lib.hid (VX.out.below hbc)
                clear XM0 XM1 XM2 XM3
                clear hbc hb hv
                have hA := vz_apply N K (by omega) (by omega) r o cap s hs xo ns xc' W5 M.out VS.out
                rw [himg] at hA
                have HA1 := Lib.hid hA
                clear hA
                have XM0 := XM.out.cell 0
                have XM1 := XM.out.cell 1
                have XM2 := fun ob => (XM.out.alloc ob).cell 0
                have XM3 := fun ob => (XM.out.alloc ob).cell 1
                go_wp2_with fail
                have hal : Below W5.heap.size W5 W5 := (Below.refl _ _)
                refine (HA1.out).mono ?_
                rintro e W6 ⟨zo, zn, zc, rfl, hv, hb⟩
                have hbc : Below W5.heap.size W5 W6 := hal.trans (hb.mono hal.size)
                have VZ := Lib.hid (hv)
                have HB := Lib.hid (HB.out.trans (Joins.below_le hbc HB.out.size))
                have XM := Lib.hid (XM.out.below hbc XM.out.lt)
                have HT := Lib.hid (HT.out.here hbc)
                have M := Lib.hid (M.out.below hbc)
                have VB := Lib.hid (VB.out.below hbc)
                have VX := Lib.hid (VX.out.below hbc)
                have VS := Lib.hid (VS.out.below hbc)
                clear XM0 XM1 XM2 XM3
                clear hal hbc hb hv
                have XM0 := XM.out.cell 0
                have XM1 := XM.out.cell 1
                have XM2 := fun ob => (XM.out.alloc ob).cell 0
                have XM3 := fun ob => (XM.out.alloc ob).cell 1
                go_wp2_with fail
                have hal : Below W6.heap.size W6 W6 := (Below.refl _ _)
                refine (vz_equal K bb (by omega) zo p zn zc n cp W6 VZ.out VB.out).mono ?_
                rintro e W7 ⟨rfl, hb⟩
                have hbc : Below W6.heap.size W6 W7 := hal.trans (hb.mono hal.size)
                have HB := Lib.hid (HB.out.trans (Joins.below_le hbc HB.out.size))
                have XM := Lib.hid (XM.out.below hbc XM.out.lt)
                have HT := Lib.hid (HT.out.here hbc)
                have M := Lib.hid (M.out.below hbc)
                have VB := Lib.hid (VB.out.below hbc)
                have VX := Lib.hid (VX.out.below hbc)
                have VS := Lib.hid (VS.out.below hbc)
                have VZ := Lib.hid (VZ.out.below hbc)
                clear XM0 XM1 XM2 XM3
                clear hal hbc hb
                have VY := Lib.hid (Vz.none_ W7 K)
                have hyr : sumr r 0 (el K 0) = 0 := by rw [el_zero]; rfl
                have hy : 0 < 2 ^ K := Nat.two_pow_pos K
                clear himg hs VS VZ VB HA1
                have XM0 := XM.out.cell 0
                have XM1 := XM.out.cell 1
                have XM2 := fun ob => (XM.out.alloc ob).cell 0
                have XM3 := fun ob => (XM.out.alloc ob).cell 1
                go_wp2_with fail
                have hal : Below W7.heap.size W7 W7 := (Below.refl _ _)
                refine (vz_apply N K (by omega) (by omega) r o cap xx hxx q n2 cq W7 M.out VX.out).mono ?_
                rintro e W8 ⟨io, ni, ic, rfl, hv, hb⟩
                have hbc : Below W7.heap.size W7 W8 := hal.trans (hb.mono hal.size)
                have VI := Lib.hid (hv)
                have HB := Lib.hid (HB.out.trans (Joins.below_le hbc HB.out.size))
                have XM := Lib.hid (XM.out.below hbc XM.out.lt)
                have HT := Lib.hid (HT.out.here hbc)
                have M := Lib.hid (M.out.below hbc)
                have VX := Lib.hid (VX.out.below hbc)
                have VY := Lib.hid (VY.out.below hbc)
                clear XM0 XM1 XM2 XM3
                clear hal hbc hb hv
                have XM0 := XM.out.cell 0
                have XM1 := XM.out.cell 1
                have XM2 := fun ob => (XM.out.alloc ob).cell 0
                have XM3 := fun ob => (XM.out.alloc ob).cell 1
                go_wp2_with fail
                have hal : Below W8.heap.size W8 W8 := (Below.refl _ _)
                refine (vz_solved N K (by omega) r HRr.out xx hxx o io cap ni ic W8 M.out VI.out HT.out).mono ?_
                rintro e W9 ⟨u, uo, nu, uc, rfl, hv, hu, huimg, hb⟩
                have hbc : Below W8.heap.size W8 W9 := hal.trans (hb.mono hal.size)
                have VU := Lib.hid (hv)
                have HB := Lib.hid (HB.out.trans (Joins.below_le hbc HB.out.size))
                have XM := Lib.hid (XM.out.below hbc XM.out.lt)
                have HT := Lib.hid (HT.out.here hbc)
                have M := Lib.hid (M.out.below hbc)
                have VX := Lib.hid (VX.out.below hbc)
                have VY := Lib.hid (VY.out.below hbc)
                have VI := Lib.hid (VI.out.below hbc)
                clear XM0 XM1 XM2 XM3
                clear hal hbc hb hv
                have hA2 := vz_apply N K (by omega) (by omega) r o cap u hu uo nu uc W9 M.out VU.out
                rw [huimg] at hA2
                have HA2 := Lib.hid hA2
                clear hA2
                have XM0 := XM.out.cell 0
                have XM1 := XM.out.cell 1
                have XM2 := fun ob => (XM.out.alloc ob).cell 0
                have XM3 := fun ob => (XM.out.alloc ob).cell 1
                go_wp2_with fail
                have hal : Below W9.heap.size W9 W9 := (Below.refl _ _)
                refine (HA2.out).mono ?_
                rintro e W10 ⟨vo, nv, vc, rfl, hv, hb⟩
                have hbc : Below W9.heap.size W9 W10 := hal.trans (hb.mono hal.size)
                have VQ := Lib.hid (hv)
                have HB := Lib.hid (HB.out.trans (Joins.below_le hbc HB.out.size))
                have XM := Lib.hid (XM.out.below hbc XM.out.lt)
                have HT := Lib.hid (HT.out.here hbc)
                have M := Lib.hid (M.out.below hbc)
                have VX := Lib.hid (VX.out.below hbc)
                have VY := Lib.hid (VY.out.below hbc)
                have VI := Lib.hid (VI.out.below hbc)
                have VU := Lib.hid (VU.out.below hbc)
                clear XM0 XM1 XM2 XM3
                clear hal hbc hb hv
                have XM0 := XM.out.cell 0
                have XM1 := XM.out.cell 1
                have XM2 := fun ob => (XM.out.alloc ob).cell 0
                have XM3 := fun ob => (XM.out.alloc ob).cell 1
                go_wp2_with fail
                have hal : Below W10.heap.size W10 W10 := (Below.refl _ _)
                refine (vz_equal K (imr K N r xx) (by omega) vo io nv vc ni ic W10 VQ.out VI.out).mono ?_
                rintro e W11 ⟨rfl, hb⟩
                have hbc : Below W10.heap.size W10 W11 := hal.trans (hb.mono hal.size)
                have HB := Lib.hid (HB.out.trans (Joins.below_le hbc HB.out.size))
                have XM := Lib.hid (XM.out.below hbc XM.out.lt)
                have HT := Lib.hid (HT.out.here hbc)
                have M := Lib.hid (M.out.below hbc)
                have VX := Lib.hid (VX.out.below hbc)
                have VY := Lib.hid (VY.out.below hbc)
                have VI := Lib.hid (VI.out.below hbc)
                have VU := Lib.hid (VU.out.below hbc)
                have VQ := Lib.hid (VQ.out.below hbc)
                clear XM0 XM1 XM2 XM3
                clear hal hbc hb
                have hVf := vz_verify N K (by omega) (by omega) r HRr.out (imr K N r xx) 0 (imr_lt K N r xx) o io none cap ni ic 0 0 W11 HT.out M.out VI.out VY.out
                rw [vfy_not hxx hy hyr] at hVf
                have HVf := Lib.hid hVf
                clear hVf
                have XM0 := XM.out.cell 0
                have XM1 := XM.out.cell 1
                have XM2 := fun ob => (XM.out.alloc ob).cell 0
                have XM3 := fun ob => (XM.out.alloc ob).cell 1
                go_wp2_with fail
                have hal : Below W11.heap.size W11 W11 := (Below.refl _ _)
                refine (HVf.out).mono ?_
                rintro e W12 ⟨rfl, hb⟩
                have hbc : Below W11.heap.size W11 W12 := hal.trans (hb.mono hal.size)
                have HB := Lib.hid (HB.out.trans (Joins.below_le hbc HB.out.size))
                have XM := Lib.hid (XM.out.below hbc XM.out.lt)
                have HT := Lib.hid (HT.out.here hbc)
                have M := Lib.hid (M.out.below hbc)
                have VX := Lib.hid (VX.out.below hbc)
                have VY := Lib.hid (VY.out.below hbc)
                have VI := Lib.hid (VI.out.below hbc)
                have VU := Lib.hid (VU.out.below hbc)
                have VQ := Lib.hid (VQ.out.below hbc)
                clear XM0 XM1 XM2 XM3
                clear hal hbc hb
                have HZ : Hid (∀ V, Below W12.heap.size W12 V → Below W12.heap.size W12 V ∧ V.cell? ⟨w.heap.size, 0, none⟩ = some (.int .i64 (N : Int)) ∧ V.cell? ⟨w.heap.size, 1, none⟩ = some (.slice o K cap)) := Lib.hid fun V hV => ⟨hV, (XM.out.below hV XM.out.lt).cell 0, (XM.out.below hV XM.out.lt).cell 1⟩
                have HW := Lib.hid (fun V (hV : Below W12.heap.size W12 V) => HB.out.trans (hV.mono HB.out.size))
                have HAw := Lib.hid (fun V (hV : Below W12.heap.size W12 V) => awake_ok V (HT.out.here hV))
                have HPl := Lib.hid (fun V (hV : Below W12.heap.size W12 V) => vz_plus N u xx (by omega) uo q nu uc n2 cq V (VU.out.below hV) (VX.out.below hV))
                have hap := fun V (hV : Below W12.heap.size W12 V) oo nn c2 (hv : Vz V oo nn N (u ^^^ xx)) => vz_apply N K (by omega) (by omega) r o cap (u ^^^ xx) (Nat.xor_lt_two_pow hu hxx) oo nn c2 V (M.out.below hV) hv
                rw [imr_add, huimg, Nat.xor_self] at hap
                have HAp := Lib.hid hap
                clear hap
                go_wp2_with fail
                go_region_held3 (fun V => Below W12.heap.size W12 V ∧ V.cell? ⟨w.heap.size, 0, none⟩ = some (.int .i64 (N : Int)) ∧ V.cell? ⟨w.heap.size, 1, none⟩ = some (.slice o K cap)) (first | exact HZ.out _ (below_dn 1 (Below.refl _ _)) | exact HZ.out _ (Below.refl _ _) | exact HZ.out _ (by assumption)) (first
                  | (go_at_call 38; refine (HPl.out _ (by first | assumption | exact And.left (by assumption) | exact Below.refl _ _ | exact below_dn 1 (Below.refl _ _))).mono ?_; rintro e y ⟨po, pn, pc, rfl, hvp, hz1⟩; have kk1 : Below W12.heap.size W12 y := Below.trans (by first | assumption | exact And.left (by assumption) | exact Below.refl _ _ | exact below_dn 1 (Below.refl _ _)) (Joins.below_le hz1 (Below.size (by first | assumption | exact And.left (by assumption) | exact Below.refl _ _ | exact below_dn 1 (Below.refl _ _)))))
                  | (go_at_call 16; refine (HAp.out _ (by first | assumption | exact And.left (by assumption) | exact Below.refl _ _ | exact below_dn 1 (Below.refl _ _)) _ _ _ (by first | assumption | exact Vz.below (by assumption) (below_dn 1 (Below.refl _ _)))).mono ?_; rintro e y ⟨ao, an, ac, rfl, hva, hz2⟩; obtain rfl := hva.len0; have kk2 : Below W12.heap.size W12 y := Below.trans (by first | assumption | exact And.left (by assumption) | exact Below.refl _ _ | exact below_dn 1 (Below.refl _ _)) (Joins.below_le hz2 (Below.size (by first | assumption | exact And.left (by assumption) | exact Below.refl _ _ | exact below_dn 1 (Below.refl _ _))))))
                all_goals
                  go_wp2_with fail
                  refine (HAw.out _ (by first | assumption | exact below_dn 1 (by assumption))).mono ?_
                  rintro e w' ⟨rfl, hb⟩
                  have kk3 : Below W12.heap.size W12 w' := Below.trans (by first | assumption | exact below_dn 1 (by assumption)) (Joins.below_le hb (Below.size (by first | assumption | exact below_dn 1 (by assumption))))
                  go_wp2_with fail
                  go_ret
                  exact ⟨rfl, HW.out _ kk3⟩
              · have hbc : Below W4.heap.size W4 W5 := hb
                have VY := Lib.hid hv
                have HB := Lib.hid (HB.out.trans (Joins.below_le hbc HB.out.size))
                have XM := Lib.hid (XM.out.below hbc XM.out.lt)
                have HT := Lib.hid (HT.out.here hbc)
                have M := Lib.hid (M.out.below hbc)
                have VB := Lib.hid (VB.out.below hbc)
                have VX := Lib.hid (VX.out.below hbc)
                clear XM0 XM1 XM2 XM3
                clear hbc hb hv
                have hVg := vz_verify N K (by omega) (by omega) r HRr.out bb yy hbb o p fo cap n cp ny fc W5 HT.out M.out VB.out VY.out
                rw [vfy_rf hrf] at hVg
                have HVg := Lib.hid hVg
                have hyr := hrf.1
                clear hVg hrf
                have XM0 := XM.out.cell 0
                have XM1 := XM.out.cell 1
                have XM2 := fun ob => (XM.out.alloc ob).cell 0
                have XM3 := fun ob => (XM.out.alloc ob).cell 1
                go_wp2_with fail
                have hal : Below W5.heap.size W5 W5 := (Below.refl _ _)
                refine (HVg.out).mono ?_
                rintro e W6 ⟨rfl, hb⟩
                have hbc : Below W5.heap.size W5 W6 := hal.trans (hb.mono hal.size)
                have HB := Lib.hid (HB.out.trans (Joins.below_le hbc HB.out.size))
                have XM := Lib.hid (XM.out.below hbc XM.out.lt)
                have HT := Lib.hid (HT.out.here hbc)
                have M := Lib.hid (M.out.below hbc)
                have VB := Lib.hid (VB.out.below hbc)
                have VX := Lib.hid (VX.out.below hbc)
                have VY := Lib.hid (VY.out.below hbc)
                clear XM0 XM1 XM2 XM3
                clear hal hbc hb
                have XM0 := XM.out.cell 0
                have XM1 := XM.out.cell 1
                have XM2 := fun ob => (XM.out.alloc ob).cell 0
                have XM3 := fun ob => (XM.out.alloc ob).cell 1
                go_wp2_with fail
                have hal : Below W6.heap.size W6 W6 := (Below.refl _ _)
                refine (vz_apply N K (by omega) (by omega) r o cap xx hxx q n2 cq W6 M.out VX.out).mono ?_
                rintro e W7 ⟨io, ni, ic, rfl, hv, hb⟩
                have hbc : Below W6.heap.size W6 W7 := hal.trans (hb.mono hal.size)
                have VI := Lib.hid (hv)
                have HB := Lib.hid (HB.out.trans (Joins.below_le hbc HB.out.size))
                have XM := Lib.hid (XM.out.below hbc XM.out.lt)
                have HT := Lib.hid (HT.out.here hbc)
                have M := Lib.hid (M.out.below hbc)
                have VB := Lib.hid (VB.out.below hbc)
                have VX := Lib.hid (VX.out.below hbc)
                have VY := Lib.hid (VY.out.below hbc)
                clear XM0 XM1 XM2 XM3
                clear hal hbc hb hv
                have XM0 := XM.out.cell 0
                have XM1 := XM.out.cell 1
                have XM2 := fun ob => (XM.out.alloc ob).cell 0
                have XM3 := fun ob => (XM.out.alloc ob).cell 1
                go_wp2_with fail
                have hal : Below W7.heap.size W7 W7 := (Below.refl _ _)
                refine (vz_solved N K (by omega) r HRr.out xx hxx o io cap ni ic W7 M.out VI.out HT.out).mono ?_
                rintro e W8 ⟨u, uo, nu, uc, rfl, hv, hu, huimg, hb⟩
                have hbc : Below W7.heap.size W7 W8 := hal.trans (hb.mono hal.size)
                have VU := Lib.hid (hv)
                have HB := Lib.hid (HB.out.trans (Joins.below_le hbc HB.out.size))
                have XM := Lib.hid (XM.out.below hbc XM.out.lt)
                have HT := Lib.hid (HT.out.here hbc)
                have M := Lib.hid (M.out.below hbc)
                have VB := Lib.hid (VB.out.below hbc)
                have VX := Lib.hid (VX.out.below hbc)
                have VY := Lib.hid (VY.out.below hbc)
                have VI := Lib.hid (VI.out.below hbc)
                clear XM0 XM1 XM2 XM3
                clear hal hbc hb hv
                have hA2 := vz_apply N K (by omega) (by omega) r o cap u hu uo nu uc W8 M.out VU.out
                rw [huimg] at hA2
                have HA2 := Lib.hid hA2
                clear hA2
                have XM0 := XM.out.cell 0
                have XM1 := XM.out.cell 1
                have XM2 := fun ob => (XM.out.alloc ob).cell 0
                have XM3 := fun ob => (XM.out.alloc ob).cell 1
                go_wp2_with fail
                have hal : Below W8.heap.size W8 W8 := (Below.refl _ _)
                refine (HA2.out).mono ?_
                rintro e W9 ⟨vo, nv, vc, rfl, hv, hb⟩
                have hbc : Below W8.heap.size W8 W9 := hal.trans (hb.mono hal.size)
                have VQ := Lib.hid (hv)
                have HB := Lib.hid (HB.out.trans (Joins.below_le hbc HB.out.size))
                have XM := Lib.hid (XM.out.below hbc XM.out.lt)
                have HT := Lib.hid (HT.out.here hbc)
                have M := Lib.hid (M.out.below hbc)
                have VB := Lib.hid (VB.out.below hbc)
                have VX := Lib.hid (VX.out.below hbc)
                have VY := Lib.hid (VY.out.below hbc)
                have VI := Lib.hid (VI.out.below hbc)
                have VU := Lib.hid (VU.out.below hbc)
                clear XM0 XM1 XM2 XM3
                clear hal hbc hb hv
                have XM0 := XM.out.cell 0
                have XM1 := XM.out.cell 1
                have XM2 := fun ob => (XM.out.alloc ob).cell 0
                have XM3 := fun ob => (XM.out.alloc ob).cell 1
                go_wp2_with fail
                have hal : Below W9.heap.size W9 W9 := (Below.refl _ _)
                refine (vz_equal K (imr K N r xx) (by omega) vo io nv vc ni ic W9 VQ.out VI.out).mono ?_
                rintro e W10 ⟨rfl, hb⟩
                have hbc : Below W9.heap.size W9 W10 := hal.trans (hb.mono hal.size)
                have HB := Lib.hid (HB.out.trans (Joins.below_le hbc HB.out.size))
                have XM := Lib.hid (XM.out.below hbc XM.out.lt)
                have HT := Lib.hid (HT.out.here hbc)
                have M := Lib.hid (M.out.below hbc)
                have VB := Lib.hid (VB.out.below hbc)
                have VX := Lib.hid (VX.out.below hbc)
                have VY := Lib.hid (VY.out.below hbc)
                have VI := Lib.hid (VI.out.below hbc)
                have VU := Lib.hid (VU.out.below hbc)
                have VQ := Lib.hid (VQ.out.below hbc)
                clear XM0 XM1 XM2 XM3
                clear hal hbc hb
                have hVf := vz_verify N K (by omega) (by omega) r HRr.out (imr K N r xx) yy (imr_lt K N r xx) o io fo cap ni ic ny fc W10 HT.out M.out VI.out VY.out
                rw [vfy_not hxx hy hyr] at hVf
                have HVf := Lib.hid hVf
                clear hVf
                have XM0 := XM.out.cell 0
                have XM1 := XM.out.cell 1
                have XM2 := fun ob => (XM.out.alloc ob).cell 0
                have XM3 := fun ob => (XM.out.alloc ob).cell 1
                go_wp2_with fail
                have hal : Below W10.heap.size W10 W10 := (Below.refl _ _)
                refine (HVf.out).mono ?_
                rintro e W11 ⟨rfl, hb⟩
                have hbc : Below W10.heap.size W10 W11 := hal.trans (hb.mono hal.size)
                have HB := Lib.hid (HB.out.trans (Joins.below_le hbc HB.out.size))
                have XM := Lib.hid (XM.out.below hbc XM.out.lt)
                have HT := Lib.hid (HT.out.here hbc)
                have M := Lib.hid (M.out.below hbc)
                have VB := Lib.hid (VB.out.below hbc)
                have VX := Lib.hid (VX.out.below hbc)
                have VY := Lib.hid (VY.out.below hbc)
                have VI := Lib.hid (VI.out.below hbc)
                have VU := Lib.hid (VU.out.below hbc)
                have VQ := Lib.hid (VQ.out.below hbc)
                clear XM0 XM1 XM2 XM3
                clear hal hbc hb
                have HZ : Hid (∀ V, Below W11.heap.size W11 V → Below W11.heap.size W11 V ∧ V.cell? ⟨w.heap.size, 0, none⟩ = some (.int .i64 (N : Int)) ∧ V.cell? ⟨w.heap.size, 1, none⟩ = some (.slice o K cap)) := Lib.hid fun V hV => ⟨hV, (XM.out.below hV XM.out.lt).cell 0, (XM.out.below hV XM.out.lt).cell 1⟩
                have HW := Lib.hid (fun V (hV : Below W11.heap.size W11 V) => HB.out.trans (hV.mono HB.out.size))
                have HAw := Lib.hid (fun V (hV : Below W11.heap.size W11 V) => awake_ok V (HT.out.here hV))
                have HPl := Lib.hid (fun V (hV : Below W11.heap.size W11 V) => vz_plus N u xx (by omega) uo q nu uc n2 cq V (VU.out.below hV) (VX.out.below hV))
                have hap := fun V (hV : Below W11.heap.size W11 V) oo nn c2 (hv : Vz V oo nn N (u ^^^ xx)) => vz_apply N K (by omega) (by omega) r o cap (u ^^^ xx) (Nat.xor_lt_two_pow hu hxx) oo nn c2 V (M.out.below hV) hv
                rw [imr_add, huimg, Nat.xor_self] at hap
                have HAp := Lib.hid hap
                clear hap
                go_wp2_with fail
                go_region_held3 (fun V => Below W11.heap.size W11 V ∧ V.cell? ⟨w.heap.size, 0, none⟩ = some (.int .i64 (N : Int)) ∧ V.cell? ⟨w.heap.size, 1, none⟩ = some (.slice o K cap)) (first | exact HZ.out _ (below_dn 1 (Below.refl _ _)) | exact HZ.out _ (Below.refl _ _) | exact HZ.out _ (by assumption)) (first
                  | (go_at_call 38; refine (HPl.out _ (by first | assumption | exact And.left (by assumption) | exact Below.refl _ _ | exact below_dn 1 (Below.refl _ _))).mono ?_; rintro e y ⟨po, pn, pc, rfl, hvp, hz1⟩; have kk1 : Below W11.heap.size W11 y := Below.trans (by first | assumption | exact And.left (by assumption) | exact Below.refl _ _ | exact below_dn 1 (Below.refl _ _)) (Joins.below_le hz1 (Below.size (by first | assumption | exact And.left (by assumption) | exact Below.refl _ _ | exact below_dn 1 (Below.refl _ _)))))
                  | (go_at_call 16; refine (HAp.out _ (by first | assumption | exact And.left (by assumption) | exact Below.refl _ _ | exact below_dn 1 (Below.refl _ _)) _ _ _ (by first | assumption | exact Vz.below (by assumption) (below_dn 1 (Below.refl _ _)))).mono ?_; rintro e y ⟨ao, an, ac, rfl, hva, hz2⟩; obtain rfl := hva.len0; have kk2 : Below W11.heap.size W11 y := Below.trans (by first | assumption | exact And.left (by assumption) | exact Below.refl _ _ | exact below_dn 1 (Below.refl _ _)) (Joins.below_le hz2 (Below.size (by first | assumption | exact And.left (by assumption) | exact Below.refl _ _ | exact below_dn 1 (Below.refl _ _))))))
                all_goals
                  go_wp2_with fail
                  refine (HAw.out _ (by first | assumption | exact below_dn 1 (by assumption))).mono ?_
                  rintro e w' ⟨rfl, hb⟩
                  have kk3 : Below W11.heap.size W11 w' := Below.trans (by first | assumption | exact below_dn 1 (by assumption)) (Joins.below_le hb (Below.size (by first | assumption | exact below_dn 1 (by assumption))))
                  go_wp2_with fail
                  go_ret
                  exact ⟨rfl, HW.out _ kk3⟩
            · have g1 : (vx != 0) = true := by rw [bne_iff_ne]; exact hv1
              go_wp2_with fail
              have hal : Below W3.heap.size W3 W3 := Below.refl _ _
              refine (HV2.out).mono ?_
              rintro e W4 ⟨rfl, hb⟩
              have hbc : Below W3.heap.size W3 W4 := hal.trans (hb.mono hal.size)
              have HB := Lib.hid (HB.out.trans (Joins.below_le hbc HB.out.size))
              have XM := Lib.hid (XM.out.below hbc XM.out.lt)
              have HT := Lib.hid (HT.out.here hbc)
              have M := Lib.hid (M.out.below hbc)
              have HLx := Lib.hid (HLx.out.below hbc)
              have VB := Lib.hid (VB.out.below hbc)
              clear XM0 XM1 XM2 XM3
              clear hal hbc hb
              have XM0 := XM.out.cell 0
              have XM1 := XM.out.cell 1
              have XM2 := fun ob => (XM.out.alloc ob).cell 0
              have XM3 := fun ob => (XM.out.alloc ob).cell 1
              have HA := Lib.hid (awake_ok W4 HT.out)
              go_wp2_with fail
              refine HA.out.mono ?_
              rintro e w' ⟨rfl, hb⟩
              have HE := Lib.hid (HB.out.trans (hb.mono HB.out.size))
              clear hb
              go_wp2_with fail
              go_ret
              exact ⟨rfl, HE.out⟩
          · have g1 : (vb != 0) = true := by rw [bne_iff_ne]; exact hv0
            go_wp2_with fail
            have hal : Below W2.heap.size W2 W2 := Below.refl _ _
            refine (HV1.out).mono ?_
            rintro e W3 ⟨rfl, hb⟩
            have hbb : Below W2.heap.size W2 W3 := hal.trans (hb.mono hal.size)
            have HB := Lib.hid (HB.out.trans (Joins.below_le hbb HB.out.size))
            have XM := Lib.hid (XM.out.below hbb XM.out.lt)
            have HT := Lib.hid (HT.out.here hbb)
            have M := Lib.hid (M.out.below hbb)
            have HLb := Lib.hid (HLb.out.below hbb)
            have HLx := Lib.hid (HLx.out.below hbb)
            clear XM0 XM1 XM2 XM3
            clear hal hbb hb
            have XM0 := XM.out.cell 0
            have XM1 := XM.out.cell 1
            have XM2 := fun ob => (XM.out.alloc ob).cell 0
            have XM3 := fun ob => (XM.out.alloc ob).cell 1
            have HA := Lib.hid (awake_ok W3 HT.out)
            go_wp2_with fail
            refine HA.out.mono ?_
            rintro e w' ⟨rfl, hb⟩
            have HE := Lib.hid (HB.out.trans (hb.mono HB.out.size))
            clear hb
            go_wp2_with fail
            go_ret
            exact ⟨rfl, HE.out⟩

end Go.Proofs.YtbefkngeffpokaaDoor
