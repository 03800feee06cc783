/- TopKernelsSpan, whatever the matrix and the vector. -/
import Derived.Test.YtdobhdhgmbmhfaaDoorTpA
import Derived.Test.YtdobhdhgmbmhfaaDoorTpB
import Derived.WalkKit
import Derived.WalkSpells
import Derived.WalkLawsBesides
import Derived.Handy
import Derived.Deep.QuietTactic
import Derived.BigQuiet
import Derived.Outline
import Derived.Laws.BitsAllLaws
import Derived.IntWalk
import Derived.Lib.SmallJoins
import Derived.Lib.Hide
import Derived.Deep.DeepCutAuto
import Derived.LoopTactic
import Derived.Deep.RegionWith
import Derived.Laws.CopyOwn
import Derived.Maps.OwnOps
import Derived.Maps.OwnSet
import Derived.Laws.OwnMore
import Derived.Maps.AppendAt
import Derived.RangeFuncNested
import Derived.RangeFuncBound
import Derived.RangeFuncCalls
import Derived.RangeFuncLeaves
import Derived.RangeFuncBox
import Derived.RangeFuncFrom
import Derived.Shelf.Abstract
import Derived.Shelf.RegionOpen
import Derived.OwnWalkIn
import Derived.TacticsInMore
import Derived.LoopNIn
import Derived.LoopIn
import Derived.Deep.RegionHeld3
import Derived.RegionTactic
import Derived.ChangeAlike
namespace Go.Proofs.YtdobhdhgmbmhfaaDoor
set_option linter.unusedVariables false
set_option linter.unusedSimpArgs false
open Go.RowKit


theorem vz_pos {w : World} {o : Option Addr} {n N y : Nat} (h : Vz w o n N y) (hy : y < 2 ^ N) (h0 : y ≠ 0) : 0 < n := by
  rcases Nat.eq_zero_or_pos n with e | e
  · exact absurd ((el_nil hy).1 (List.eq_nil_of_length_eq_zero (h.1.symm.trans e))) h0
  · exact e
theorem kern_facts (N K : Nat) (hN : N ≤ 14) (hK : K ≤ 14) (r : Nat → Nat) (hr : ∀ i, i < K → r i < 2 ^ N) : ∃ (q : Nat) (kk : Nat → Nat), q ≤ 14 ∧ (∀ s, imr K N r (imr N q (trr q kk) s) = 0) ∧ (∀ x, x < 2 ^ N → imr K N r x = 0 → ∃ s, s < 2 ^ q ∧ imr N q (trr q kk) s = x) ∧ (∀ i, trr q kk i < 2 ^ q) ∧
    (∀ o cap w, Mx w o K N r → Tb w → Calls Tryd.prog 14 #[.agg #[.int .i64 (N : Int), .slice o K cap]] w (MOut N q kk 0 w)) := by
  obtain ⟨S, σ, h⟩ := can_of hr
  have e2 := nl_len h.asc h.lt
  have hm : ∀ i, i < (nl N S).length → (nl N S).getD i 0 < N ∧ (nl N S).getD i 0 ∉ S := fun i hi => by
    rw [List.getD_eq_getElem?_getD, List.getElem?_eq_getElem hi]
    exact nl_mem.1 (List.getElem_mem _)
  have hk : ∀ i, i < (nl N S).length → (fun i => kr S σ ((nl N S).getD i 0)) i < 2 ^ N := fun i hi => kr_lt h (hm i hi).1 (hm i hi).2
  refine ⟨(nl N S).length, _, by omega, fun s => by rw [imr_trr hk]; exact span_ker h s, fun x hx h0 => ?_, fun i => trr_lt _ _ i, fun o cap w hM hT => (ker_good N K (by omega) (by omega) r hr S σ h sort_ok o cap w hM hT).mono fun e w' h => h.out⟩
  obtain ⟨s, h1, h2⟩ := ker_span h hx h0
  exact ⟨s, h1, by rw [imr_trr hk]; exact h2⟩
set_option maxRecDepth 100000 in
set_option maxHeartbeats 8000000 in
theorem kernS_ok (C : Int) (o : Option Addr) (K cap : Nat) (oc : Nat → Option Addr) (nc cc : Nat → Nat) (xc : Nat → Nat → Int) (n cp : Nat) (f : Nat → Int) (p : Option Addr) (w : World) (hL : Lv w o K oc nc cc xc) (hz : Lz w p n f) (hT : Tb1 w) :
    Calls Tryd.prog 4 #[mv C o K cap, .slice p n cp] w fun e w' => e = .returned (.bool true) ∧ Below w.heap.size w w' := by
  have hb2 : Below w.heap.size w (w.alloc (.cells #[.int .i64 C, .slice o K cap] 24)) := (Below.refl _ _).alloc (Nat.le_refl _) _
  have HB := Lib.hid hb2
  have XM := Lib.hid (mbox w C o K cap)
  have HT := Lib.hid (hT.here hb2 (by first | (simp; done) | (simp; omega)))
  have LA := Lib.hid (hL.below hb2)
  have HLx := Lib.hid (hz.below hb2)
  unfold mv
  clear hL hz hT hb2
  go_enter Tryd.func4, Tryd.ntmps4
  obtain ⟨W0, hW0⟩ : ∃ W, w.alloc (.cells #[.int .i64 C, .slice o K cap] 24) = W := ⟨_, rfl⟩
  go_wp2_with fail
  rw [hW0] at HB XM HT LA HLx
  clear hW0
  refine (awake3_ok W0 HT.out).mono ?_
  rintro e W1 ⟨rfl, hb⟩
  have hbb := hb
  have HB := Lib.hid (HB.out.trans (Joins.below_le hbb HB.out.size))
  have XM := Lib.hid (XM.out.below hbb XM.out.lt)
  have HT := Lib.hid (HT.out.here hbb)
  have LA := Lib.hid (LA.out.below hbb)
  have HLx := Lib.hid (HLx.out.below hbb)
  clear hbb hb
  have XM0 := XM.out.cell 0
  have XM1 := XM.out.cell 1
  have XM2 := fun ob => (XM.out.alloc ob).cell 0
  have XM3 := fun ob => (XM.out.alloc ob).cell 1
  go_wp2_with fail
  refine (play_one C o K cap oc nc cc xc 24 W1 LA.out).mono ?_
  rintro e W2 ⟨⟨r0, rfl, hr⟩, hb⟩
  have hbb := hb
  have HR := Lib.hid hr
  have HU := Lib.hid (Below.refl W1.heap.size W1)
  have HB := Lib.hid (HB.out.trans (Joins.below_le hbb HB.out.size))
  have XM := Lib.hid (XM.out.below hbb XM.out.lt)
  have HT := Lib.hid (HT.out.here hbb)
  have LA := Lib.hid (LA.out.below hbb)
  have HLx := Lib.hid (HLx.out.below hbb)
  have HU := Lib.hid (HU.out.trans (Joins.below_le hbb HU.out.size))
  clear XM0 XM1 XM2 XM3
  clear hbb hb hr LA
  cases r0 with
  | false =>
    go_wp2_with fail
    go_ret
    exact ⟨rfl, HB.out⟩
  | true =>
    obtain ⟨N, r, rfl, hN, hK, hr, hmA⟩ := HR.out rfl
    have M := Lib.hid (hmA.below HU.out)
    have HRr := Lib.hid hr
    clear hmA HR hr HU
    have XM0 := XM.out.cell 0
    have XM1 := XM.out.cell 1
    have XM2 := fun ob => (XM.out.alloc ob).cell 0
    have XM3 := fun ob => (XM.out.alloc ob).cell 1
    by_cases h40 : 20 < n
    · have k1 : (20 : Int) < (n : Int) := by omega
      have k2 : decide (20 < n) = true := decide_eq_true h40
      go_wp2_with fail
      go_ret
      exact ⟨rfl, HB.out⟩
    · have k1 : ¬ (20 : Int) < (n : Int) := by omega
      have k2 : decide (20 < n) = false := decide_eq_false h40
      obtain ⟨vb, hvb⟩ : ∃ v, vcode (N : Int) n f = v := ⟨_, rfl⟩
      have hV1 := rvec_below (N : Int) n (by omega) f p cp W2 HLx.out
      rw [hvb] at hV1
      have HV1 := Lib.hid hV1
      clear hV1
      by_cases hv0 : vb = 0
      · subst hv0
        obtain ⟨xx, hxx, hvz⟩ := vz_open hvb
        have VX := Lib.hid (hvz W2 p HLx.out)
        clear hvz hvb HLx
        go_wp2_with fail
        refine (HV1.out).mono ?_
        rintro e W3 ⟨rfl, hb⟩
        have hbc := hb
        have HB := Lib.hid (HB.out.trans (Joins.below_le hbc HB.out.size))
        have XM := Lib.hid (XM.out.below hbc XM.out.lt)
        have HT := Lib.hid (HT.out.here hbc)
        have M := Lib.hid (M.out.below hbc)
        have VX := Lib.hid (VX.out.below hbc)
        clear XM0 XM1 XM2 XM3
        clear hbc hb
        have XM0 := XM.out.cell 0
        have XM1 := XM.out.cell 1
        have XM2 := fun ob => (XM.out.alloc ob).cell 0
        have XM3 := fun ob => (XM.out.alloc ob).cell 1
        clear XM0 XM1 XM2 XM3
        obtain ⟨q, kk, hq, hk0, hk1, hk2, hf⟩ := kern_facts N K hN hK r HRr.out
        have HF := Lib.hid hf
        have HK0 := Lib.hid hk0
        have HK1 := Lib.hid hk1
        have HK2 := Lib.hid hk2
        clear hf hk0 hk1 hk2 HV1
        have XM0 := XM.out.cell 0
        have XM1 := XM.out.cell 1
        have XM2 := fun ob => (XM.out.alloc ob).cell 0
        have XM3 := fun ob => (XM.out.alloc ob).cell 1
        go_wp2_with fail
        have hal : Below W3.heap.size W3 W3 := (Below.refl _ _)
        refine (HF.out o cap W3 M.out HT.out).mono ?_
        rintro e W4 ⟨o4, c4, rfl, hm, hb⟩
        have hbb : Below W3.heap.size W3 W4 := hal.trans (hb.mono hal.size)
        have MK := Lib.hid (hm)
        have HB := Lib.hid (HB.out.trans (Joins.below_le hbb HB.out.size))
        have XM := Lib.hid (XM.out.below hbb XM.out.lt)
        have HT := Lib.hid (HT.out.here hbb)
        have M := Lib.hid (M.out.below hbb)
        have VX := Lib.hid (VX.out.below hbb)
        clear XM0 XM1 XM2 XM3
        clear hal hbb hb hm
        have XM0 := XM.out.cell 0
        have XM1 := XM.out.cell 1
        have XM2 := fun ob => (XM.out.alloc ob).cell 0
        have XM3 := fun ob => (XM.out.alloc ob).cell 1
        go_wp2_with fail
        have hal : Below W4.heap.size W4 (W4.alloc (.cells #[.int .i64 (N : Int), .slice o4 q c4] 24)) := ((Below.refl _ _).alloc (by first | exact Nat.le_refl _ | (simp; done) | (simp; omega)) _)
        refine (trans_mx N q (by omega) (by omega) kk o4 c4 (W4.alloc (.cells #[.int .i64 (N : Int), .slice o4 q c4] 24)) (MK.out.below hal)).mono ?_
        rintro e W5 ⟨o5, c5, rfl, hm, hb⟩
        have hbb : Below W4.heap.size W4 W5 := hal.trans (hb.mono hal.size)
        have XK := Lib.hid ((Box.new W4 #[.int .i64 (N : Int), .slice o4 q c4] 24).below hb (by simp))
        have MT2 := Lib.hid (hm)
        have HB := Lib.hid (HB.out.trans (Joins.below_le hbb HB.out.size))
        have XM := Lib.hid (XM.out.below hbb XM.out.lt)
        have HT := Lib.hid (HT.out.here hbb)
        have M := Lib.hid (M.out.below hbb)
        have VX := Lib.hid (VX.out.below hbb)
        have MK := Lib.hid (MK.out.below hbb)
        clear XM0 XM1 XM2 XM3
        clear hal hbb hb hm
        have XM0 := XM.out.cell 0
        have XM1 := XM.out.cell 1
        have XM2 := fun ob => (XM.out.alloc ob).cell 0
        have XM3 := fun ob => (XM.out.alloc ob).cell 1
        have XK0 := XK.out.cell 0
        have XK1 := XK.out.cell 1
        have XK2 := fun ob => (XK.out.alloc ob).cell 0
        have XK3 := fun ob => (XK.out.alloc ob).cell 1
        go_wp2_with fail
        have hal : Below W5.heap.size W5 (W5.alloc (.cells #[.int .i64 (q : Int), .slice o5 N c5] 24)) := ((Below.refl _ _).alloc (by first | exact Nat.le_refl _ | (simp; done) | (simp; omega)) _)
        refine (vz_apply N K (by omega) (by omega) r o cap xx hxx p n cp (W5.alloc (.cells #[.int .i64 (q : Int), .slice o5 N c5] 24)) (M.out.below hal) (VX.out.below hal)).mono ?_
        rintro e W6 ⟨yo, yn, yc, rfl, hv, hb⟩
        have hbb : Below W5.heap.size W5 W6 := hal.trans (hb.mono hal.size)
        have XT := Lib.hid ((Box.new W5 #[.int .i64 (q : Int), .slice o5 N c5] 24).below hb (by simp))
        have VI := Lib.hid (hv)
        have HB := Lib.hid (HB.out.trans (Joins.below_le hbb HB.out.size))
        have XM := Lib.hid (XM.out.below hbb XM.out.lt)
        have HT := Lib.hid (HT.out.here hbb)
        have M := Lib.hid (M.out.below hbb)
        have VX := Lib.hid (VX.out.below hbb)
        have MK := Lib.hid (MK.out.below hbb)
        have XK := Lib.hid (XK.out.below hbb XK.out.lt)
        have MT2 := Lib.hid (MT2.out.below hbb)
        clear XM0 XM1 XM2 XM3 XK0 XK1 XK2 XK3
        clear hal hbb hb hv
        have XM0 := XM.out.cell 0
        have XM1 := XM.out.cell 1
        have XM2 := fun ob => (XM.out.alloc ob).cell 0
        have XM3 := fun ob => (XM.out.alloc ob).cell 1
        have XK0 := XK.out.cell 0
        have XK1 := XK.out.cell 1
        have XK2 := fun ob => (XK.out.alloc ob).cell 0
        have XK3 := fun ob => (XK.out.alloc ob).cell 1
        have XT0 := XT.out.cell 0
        have XT1 := XT.out.cell 1
        have XT2 := fun ob => (XT.out.alloc ob).cell 0
        have XT3 := fun ob => (XT.out.alloc ob).cell 1
        go_wp2_with fail
        refine (vz_solve q N (by omega) (trr q kk) (fun i _ => HK2.out i) xx hxx o5 p c5 n cp W6 MT2.out VX.out HT.out).mono ?_
        rintro e W7 (⟨s, xo, xn, xk, rfl, hv, hs, himg, hb⟩ | ⟨yy, fo, fn, fk, rfl, hv, hrf, hy, hb⟩)
        · have hbc := hb
          have VS := Lib.hid hv
          have HB := Lib.hid (HB.out.trans (Joins.below_le hbc HB.out.size))
          have XM := Lib.hid (XM.out.below hbc XM.out.lt)
          have HT := Lib.hid (HT.out.here hbc)
          have M := Lib.hid (M.out.below hbc)
          have VX := Lib.hid (VX.out.below hbc)
          have MK := Lib.hid (MK.out.below hbc)
          have XK := Lib.hid (XK.out.below hbc XK.out.lt)
          have MT2 := Lib.hid (MT2.out.below hbc)
          have XT := Lib.hid (XT.out.below hbc XT.out.lt)
          have VI := Lib.hid (VI.out.below hbc)
          clear XM0 XM1 XM2 XM3 XK0 XK1 XK2 XK3 XT0 XT1 XT2 XT3
          clear hbc hb hv
          have hi0 : imr K N r xx = 0 := by rw [← himg]; exact HK0.out s
          have hVI := VI.out
          rw [hi0] at hVI
          obtain rfl := hVI.len0
          have hap := vz_apply q N (by omega) (by omega) (trr q kk) o5 c5 s hs xo xn xk W7 MT2.out VS.out
          rw [himg] at hap
          have HAp := Lib.hid hap
          clear hap hVI
          have XM0 := XM.out.cell 0
          have XM1 := XM.out.cell 1
          have XM2 := fun ob => (XM.out.alloc ob).cell 0
          have XM3 := fun ob => (XM.out.alloc ob).cell 1
          have XK0 := XK.out.cell 0
          have XK1 := XK.out.cell 1
          have XK2 := fun ob => (XK.out.alloc ob).cell 0
          have XK3 := fun ob => (XK.out.alloc ob).cell 1
          have XT0 := XT.out.cell 0
          have XT1 := XT.out.cell 1
          have XT2 := fun ob => (XT.out.alloc ob).cell 0
          have XT3 := fun ob => (XT.out.alloc ob).cell 1
          go_wp2_with fail
          have hal : Below W7.heap.size W7 W7 := (Below.refl _ _)
          refine (HAp.out).mono ?_
          rintro e W8 ⟨zo, zn, zc, rfl, hv, hb⟩
          have hbb : Below W7.heap.size W7 W8 := hal.trans (hb.mono hal.size)
          have VZ := Lib.hid (hv)
          have HB := Lib.hid (HB.out.trans (Joins.below_le hbb HB.out.size))
          have XM := Lib.hid (XM.out.below hbb XM.out.lt)
          have HT := Lib.hid (HT.out.here hbb)
          have M := Lib.hid (M.out.below hbb)
          have VX := Lib.hid (VX.out.below hbb)
          have MK := Lib.hid (MK.out.below hbb)
          have XK := Lib.hid (XK.out.below hbb XK.out.lt)
          have MT2 := Lib.hid (MT2.out.below hbb)
          have XT := Lib.hid (XT.out.below hbb XT.out.lt)
          have VI := Lib.hid (VI.out.below hbb)
          have VS := Lib.hid (VS.out.below hbb)
          clear XM0 XM1 XM2 XM3 XK0 XK1 XK2 XK3 XT0 XT1 XT2 XT3
          clear hal hbb hb hv
          have XM0 := XM.out.cell 0
          have XM1 := XM.out.cell 1
          have XM2 := fun ob => (XM.out.alloc ob).cell 0
          have XM3 := fun ob => (XM.out.alloc ob).cell 1
          have XK0 := XK.out.cell 0
          have XK1 := XK.out.cell 1
          have XK2 := fun ob => (XK.out.alloc ob).cell 0
          have XK3 := fun ob => (XK.out.alloc ob).cell 1
          have XT0 := XT.out.cell 0
          have XT1 := XT.out.cell 1
          have XT2 := fun ob => (XT.out.alloc ob).cell 0
          have XT3 := fun ob => (XT.out.alloc ob).cell 1
          go_wp2_with fail
          have hal : Below W8.heap.size W8 W8 := (Below.refl _ _)
          refine (vz_equal N xx (by omega) zo p zn zc n cp W8 VZ.out VX.out).mono ?_
          rintro e W9 ⟨rfl, hb⟩
          have hbb : Below W8.heap.size W8 W9 := hal.trans (hb.mono hal.size)
          have HB := Lib.hid (HB.out.trans (Joins.below_le hbb HB.out.size))
          have XM := Lib.hid (XM.out.below hbb XM.out.lt)
          have HT := Lib.hid (HT.out.here hbb)
          have M := Lib.hid (M.out.below hbb)
          have VX := Lib.hid (VX.out.below hbb)
          have MK := Lib.hid (MK.out.below hbb)
          have XK := Lib.hid (XK.out.below hbb XK.out.lt)
          have MT2 := Lib.hid (MT2.out.below hbb)
          have XT := Lib.hid (XT.out.below hbb XT.out.lt)
          have VI := Lib.hid (VI.out.below hbb)
          have VS := Lib.hid (VS.out.below hbb)
          have VZ := Lib.hid (VZ.out.below hbb)
          clear XM0 XM1 XM2 XM3 XK0 XK1 XK2 XK3 XT0 XT1 XT2 XT3
          clear hal hbb hb
          go_wp2_with fail
          go_ret
          exact ⟨rfl, HB.out⟩
        · have hbc := hb
          have HB := Lib.hid (HB.out.trans (Joins.below_le hbc HB.out.size))
          have XM := Lib.hid (XM.out.below hbc XM.out.lt)
          have HT := Lib.hid (HT.out.here hbc)
          have M := Lib.hid (M.out.below hbc)
          have VX := Lib.hid (VX.out.below hbc)
          have MK := Lib.hid (MK.out.below hbc)
          have XK := Lib.hid (XK.out.below hbc XK.out.lt)
          have MT2 := Lib.hid (MT2.out.below hbc)
          have XT := Lib.hid (XT.out.below hbc XT.out.lt)
          have VI := Lib.hid (VI.out.below hbc)
          clear XM0 XM1 XM2 XM3 XK0 XK1 XK2 XK3 XT0 XT1 XT2 XT3
          clear hbc hb hv
          have hi0 : imr K N r xx ≠ 0 := fun h0 => by
            obtain ⟨s, h1, h2⟩ := HK1.out xx hxx h0
            have h3 := rf_not (C := q) (K := N) (r := trr q kk) h1 hrf.1
            rw [h2] at h3
            exact Bool.false_ne_true (h3.symm.trans hrf.2)
          have hyn := vz_pos VI.out (imr_lt K N r xx) hi0
          have hy1 : (0 : Int) < (yn : Int) := by omega
          have hy2 : ¬ (yn : Int) = 0 := by omega
          have hy3 : ¬ yn = 0 := by omega
          go_wp2_with fail
          go_ret
          exact ⟨rfl, HB.out⟩
      · have g1 : (vb != 0) = true := by rw [bne_iff_ne]; exact hv0
        go_wp2_with fail
        refine (HV1.out).mono ?_
        rintro e W3 ⟨rfl, hb⟩
        have hbc := hb
        have HB := Lib.hid (HB.out.trans (Joins.below_le hbc HB.out.size))
        have XM := Lib.hid (XM.out.below hbc XM.out.lt)
        have HT := Lib.hid (HT.out.here hbc)
        have M := Lib.hid (M.out.below hbc)
        have HLx := Lib.hid (HLx.out.below hbc)
        clear XM0 XM1 XM2 XM3
        clear hbc hb
        have XM0 := XM.out.cell 0
        have XM1 := XM.out.cell 1
        have XM2 := fun ob => (XM.out.alloc ob).cell 0
        have XM3 := fun ob => (XM.out.alloc ob).cell 1
        go_wp2_with fail
        go_ret
        exact ⟨rfl, HB.out⟩

end Go.Proofs.YtdobhdhgmbmhfaaDoor
