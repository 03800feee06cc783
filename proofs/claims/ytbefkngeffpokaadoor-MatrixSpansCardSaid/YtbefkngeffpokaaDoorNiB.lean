/- MatrixSpans, whatever the matrix and the vector. -/
import Derived.Test.YtbefkngeffpokaaDoorNiA
import Derived.WalkKit
import Derived.WalkSpells
import Derived.WalkLawsBesides
import Derived.Handy
import Derived.Deep.QuietTactic
import Derived.BigQuiet
import Derived.Outline
import Derived.Laws.BitsAllLaws
import Derived.IntWalk
import Derived.Lib.SmallJoins
import Derived.Lib.Hide
import Derived.Deep.DeepCutAuto
import Derived.LoopTactic
import Derived.Deep.RegionWith
import Derived.Laws.CopyOwn
import Derived.Maps.OwnOps
import Derived.Maps.OwnSet
import Derived.Laws.OwnMore
import Derived.Maps.AppendAt
import Derived.RangeFuncNested
import Derived.RangeFuncBound
import Derived.RangeFuncCalls
import Derived.RangeFuncLeaves
import Derived.RangeFuncBox
import Derived.RangeFuncFrom
import Derived.Shelf.Abstract
import Derived.Shelf.RegionOpen
import Derived.OwnWalkIn
import Derived.TacticsInMore
import Derived.LoopNIn
import Derived.LoopIn
import Derived.Deep.RegionHeld3
import Derived.RegionTactic
import Derived.ChangeAlike
namespace Go.Proofs.YtbefkngeffpokaaDoor
set_option linter.unusedVariables false
set_option linter.unusedSimpArgs false
open Go.RowKit


theorem Mx.vz2 {w : World} {o : Option Addr} {K N : Nat} {r : Nat → Nat} (h : Mx w o K N r) {c : Nat} (hc : c < K) : ∃ b off oc n cap, o = some ⟨b, off, none⟩ ∧ b < w.heap.size ∧ w.cell? ⟨b, off + c, none⟩ = some (.slice oc n cap) ∧ Vz w oc n N (r c) := by
  obtain ⟨b, off, oc, cap, h1, h2, h3, h4⟩ := h.at_ hc
  exact ⟨b, off, oc, _, cap, h1, h2, h3, rfl, h4⟩
/-- The sum of some rows, the rows told by a vector. -/
theorem vz_sum (K C : Nat) (hC : C ≤ 31) (hK : K ≤ 31) (r : Nat → Nat) (y : Nat) (o p : Option Addr) (cap n cp : Nat) (V : World) (hM : Mx V o K C r) (hL : Vz V p n K y) :
    Calls Tryd.prog 40 #[.slice o K cap, .slice p n cp] V fun e w' => ∃ v, e = .returned v ∧ Row w' V.heap.size v (ints (el C (sumr r 0 (el K y)))) ∧ Below V.heap.size V w' := by
  obtain ⟨rfl, h⟩ := hL
  exact sum_ok K C hC r (el K y) (fun i hi => (el_mem.1 hi).1) (by have := el_len K y; omega) o p cap cp V hM h
theorem vz_contains (N c x : Nat) (hN : N ≤ 31) (hx : x < N) (o : Option Addr) (n cap : Nat) (w : World) (hL : Vz w o n N c) : Calls Tryd.prog 41 #[.slice o n cap, .int .i64 (x : Int)] w fun e w' => e = .returned (.bool (c.testBit x)) ∧ w' = w := by
  obtain ⟨rfl, h⟩ := hL
  have h1 := contains_any (el N c) (by have := el_len N c; omega) x o cap w h
  have h2 : decide (x ∈ el N c) = c.testBit x := by
    rw [Bool.eq_iff_iff, decide_eq_true_iff, el_mem]
    exact ⟨fun h => h.2, fun h => ⟨hx, h⟩⟩
  rwa [h2] at h1
/-- What comes of the matrix: its echelon form, also of that form itself, and of the rows with a sum more. -/
theorem spans_facts (N K : Nat) (hN : N ≤ 14) (hK : K ≤ 14) (r : Nat → Nat) (hr : ∀ i, i < K → r i < 2 ^ N) (y : Nat) : ∃ (T : List Nat) (τ : Nat → Nat), Can N (rows K r) T τ ∧ T.length ≤ 14 ∧
    (∀ o cap w, Mx w o K N r → Tb w → Calls Tryd.prog 26 #[.agg #[.int .i64 (N : Int), .slice o K cap]] w (MOut N T.length (fun i => τ (T.getD i 0)) 0 w)) ∧
    (∀ o cap w, Mx w o T.length N (fun i => τ (T.getD i 0)) → Tb w → Calls Tryd.prog 26 #[.agg #[.int .i64 (N : Int), .slice o T.length cap]] w (MOut N T.length (fun i => τ (T.getD i 0)) 0 w)) ∧
    (∀ o cap w, Mx w o (K + 1) N (upd r K (sumr r 0 (el K y))) → Tb w → Calls Tryd.prog 26 #[.agg #[.int .i64 (N : Int), .slice o (K + 1) cap]] w (MOut N T.length (fun i => τ (T.getD i 0)) 0 w)) := by
  obtain ⟨T, τ, h⟩ := can_of hr
  have hTl := h.len_leC
  have hτ : ∀ c, τ c < 2 ^ N := h.bnd fun x hx => by
    obtain ⟨i, hi, rfl⟩ := rows_mem.1 hx
    exact hr i hi
  have hz : Sp (rows K r) (sumr r 0 (el K y)) := sumr_sp (fun i hi => rows_sp hi) _ _ .zero (fun i hi => (el_mem.1 hi).1)
  refine ⟨T, τ, h, by omega, fun o cap w hM hT => (ech_good N K (by omega) (by omega) r hr T τ h sort_ok o cap w hM hT).mono fun e w' h => h.out, fun o cap w hM hT => (ech_good N T.length (by omega) (by omega) _ (fun i _ => hτ _) T τ h.own sort_ok o cap w hM hT).mono fun e w' h => h.out, fun o cap w hM hT => (ech_good N (K + 1) (by omega) (by omega) _ (fun i hi => ?_) T τ (h.of_eqs (more_eqs hz)) sort_ok o cap w hM hT).mono fun e w' h => h.out⟩
  by_cases e : i = K
  · rw [e, upd_at]; exact sumr_lt _ _ (Nat.two_pow_pos _) fun j hj => hr j (el_mem.1 hj).1
  · rw [upd_ne e]; exact hr i (by omega)
set_option maxRecDepth 100000 in
set_option maxHeartbeats 16000000 in
theorem spans_ok (C : Int) (o : Option Addr) (K cap : Nat) (oc : Nat → Option Addr) (nc cc : Nat → Nat) (xc : Nat → Nat → Int) (n cp : Nat) (f : Nat → Int) (p : Option Addr) (w : World) (hL : Lv w o K oc nc cc xc) (hz : Lz w p n f) (hT : Tb1 w) :
    Calls Tryd.prog 11 #[mv C o K cap, .slice p n cp] w fun e w' => e = .returned (.bool true) ∧ Below w.heap.size w w' := by
  have hb2 : Below w.heap.size w ((w.alloc (.cells #[.int .i64 C, .slice o K cap] 24)).alloc (.cells #[.int .i64 C, .slice o K cap] 24)) := ((Below.refl _ _).alloc (Nat.le_refl _) _).alloc (by simp) _
  have HFw := Lib.hid (few_allq 1 (by omega) (w.heap.size + 1) (fun _ => C) (fun _ => o) (fun _ => K) (fun _ => cap) _ (by have h := mats_one (w.alloc (.cells #[.int .i64 C, .slice o K cap] 24)) C o K cap; rwa [World.size_alloc] at h) (fun _ => FewQ C K nc) (fun c hc W hW => few_q C K o cap oc nc cc xc W ((hL.below hb2).below hW)))
  have HB0 := Lib.hid hb2
  have HBx := Lib.hid ((mbox w C o K cap).alloc (.cells #[.int .i64 C, .slice o K cap] 24))
  have HT := Lib.hid hT
  have HSt := Lib.hid (fun (hq : FewQ C K nc) W (hW : Below w.heap.size w W) => ((mst_of hq hL).below hW : Mst W C o K cap))
  have HLb := Lib.hid hz
  unfold mv
  clear hL hT hb2 hz
  go_enter Tryd.func11, Tryd.ntmps11
  go_wp2_with fail
  refine HFw.out.mono ?_
  rintro e W1 ⟨⟨r0, rfl, hr⟩, hb1⟩
  have HB := Lib.hid (HB0.out.trans (Joins.below_le hb1 HB0.out.size))
  have XM := Lib.hid (HBx.out.below hb1 HBx.out.lt)
  have HR := Lib.hid hr
  have HT := Lib.hid (HT.out.here HB.out XM.out.lt)
  have HLb := Lib.hid (HLb.out.below HB.out)
  clear hb1 hr HBx HFw HB0
  cases r0 with
  | false =>
    have HA := Lib.hid (awake_ok W1 HT.out)
    go_wp2_with fail
    refine HA.out.mono ?_
    rintro e w' ⟨rfl, hb⟩
    have HE := Lib.hid (HB.out.trans (hb.mono HB.out.size))
    clear hb
    go_wp2_with fail
    go_ret
    exact ⟨rfl, HE.out⟩
  | true =>
    rcases HSt.out (HR.out rfl 0 (by omega)) W1 HB.out with ⟨c, h0, h1⟩ | ⟨N, r, rfl, hN, hK, hr, hmx⟩
    · have HC := Lib.hid (h1 W1 (Below.refl _ _)).2
      have g1 : (c != 0) = true := by rw [bne_iff_ne]; exact h0
      unfold mv at HC
      clear h0 h1 HSt HR
      have XM0 := XM.out.cell 0
      have XM1 := XM.out.cell 1
      have XM2 := fun ob => (XM.out.alloc ob).cell 0
      have XM3 := fun ob => (XM.out.alloc ob).cell 1
      go_wp2_with fail
      have hal : Below W1.heap.size W1 W1 := (Below.refl _ _)
      refine (HC.out).mono ?_
      rintro e W2 ⟨rfl, hb⟩
      have hbb : Below W1.heap.size W1 W2 := hal.trans (hb.mono hal.size)
      replace HB := Lib.hid (HB.out.trans (Joins.below_le hbb HB.out.size))
      replace XM := Lib.hid (XM.out.below hbb XM.out.lt)
      replace HT := Lib.hid (HT.out.here hbb)
      clear XM0 XM1 XM2 XM3
      clear hal hbb hb
      have XM0 := XM.out.cell 0
      have XM1 := XM.out.cell 1
      have XM2 := fun ob => (XM.out.alloc ob).cell 0
      have XM3 := fun ob => (XM.out.alloc ob).cell 1
      have HA := Lib.hid (awake_ok W2 HT.out)
      go_wp2_with fail
      refine HA.out.mono ?_
      rintro e w' ⟨rfl, hb⟩
      have HE := Lib.hid (HB.out.trans (hb.mono HB.out.size))
      clear hb
      go_wp2_with fail
      go_ret
      exact ⟨rfl, HE.out⟩
    · have HC := Lib.hid (rcheck_mx N K (by omega) (by omega) r o cap W1 hmx)
      have HRr := Lib.hid hr
      have M := Lib.hid hmx
      unfold mv at HC
      clear hmx hr HSt HR
      have XM0 := XM.out.cell 0
      have XM1 := XM.out.cell 1
      have XM2 := fun ob => (XM.out.alloc ob).cell 0
      have XM3 := fun ob => (XM.out.alloc ob).cell 1
      by_cases h40 : 40 < n
      · have k1 : (40 : Int) < (n : Int) := by omega
        have k2 : decide (40 < n) = true := decide_eq_true h40
        go_wp2_with fail
        have hal : Below W1.heap.size W1 W1 := Below.refl _ _
        refine (HC.out).mono ?_
        rintro e W2 ⟨rfl, hb⟩
        have hbc : Below W1.heap.size W1 W2 := hal.trans (hb.mono hal.size)
        replace HB := Lib.hid (HB.out.trans (Joins.below_le hbc HB.out.size))
        replace XM := Lib.hid (XM.out.below hbc XM.out.lt)
        replace HT := Lib.hid (HT.out.here hbc)
        replace M := Lib.hid (M.out.below hbc)
        replace HLb := Lib.hid (HLb.out.below hbc)
        clear XM0 XM1 XM2 XM3
        clear hal hbc hb
        have XM0 := XM.out.cell 0
        have XM1 := XM.out.cell 1
        have XM2 := fun ob => (XM.out.alloc ob).cell 0
        have XM3 := fun ob => (XM.out.alloc ob).cell 1
        have HA := Lib.hid (awake_ok W2 HT.out)
        go_wp2_with fail
        refine HA.out.mono ?_
        rintro e w' ⟨rfl, hb⟩
        have HE := Lib.hid (HB.out.trans (hb.mono HB.out.size))
        clear hb
        go_wp2_with fail
        go_ret
        exact ⟨rfl, HE.out⟩
      · have k1 : ¬ (40 : Int) < (n : Int) := by omega
        have k2 : decide (40 < n) = false := decide_eq_false h40
        go_wp2_with fail
        have hal : Below W1.heap.size W1 W1 := Below.refl _ _
        refine (HC.out).mono ?_
        rintro e W2 ⟨rfl, hb⟩
        have hbc : Below W1.heap.size W1 W2 := hal.trans (hb.mono hal.size)
        replace HB := Lib.hid (HB.out.trans (Joins.below_le hbc HB.out.size))
        replace XM := Lib.hid (XM.out.below hbc XM.out.lt)
        replace HT := Lib.hid (HT.out.here hbc)
        replace M := Lib.hid (M.out.below hbc)
        replace HLb := Lib.hid (HLb.out.below hbc)
        clear XM0 XM1 XM2 XM3
        clear hal hbc hb
        have XM0 := XM.out.cell 0
        have XM1 := XM.out.cell 1
        have XM2 := fun ob => (XM.out.alloc ob).cell 0
        have XM3 := fun ob => (XM.out.alloc ob).cell 1
        obtain ⟨vb, hvb⟩ : ∃ v, vcode (K : Int) n f = v := ⟨_, rfl⟩
        have hV1 := rvec_below (K : Int) n (by omega) f p cp W2 HLb.out
        rw [hvb] at hV1
        have HV1 := Lib.hid hV1
        clear hV1
        by_cases hv0 : vb = 0
        · subst hv0
          obtain ⟨yy, hyy, hvz⟩ := vz_open hvb
          have VY := Lib.hid (hvz W2 p HLb.out)
          clear hvz hvb HLb
          go_wp2_with fail
          have hal : Below W2.heap.size W2 W2 := Below.refl _ _
          refine (HV1.out).mono ?_
          rintro e W3 ⟨rfl, hb⟩
          have hbc : Below W2.heap.size W2 W3 := hal.trans (hb.mono hal.size)
          replace HB := Lib.hid (HB.out.trans (Joins.below_le hbc HB.out.size))
          replace XM := Lib.hid (XM.out.below hbc XM.out.lt)
          replace HT := Lib.hid (HT.out.here hbc)
          replace M := Lib.hid (M.out.below hbc)
          replace VY := Lib.hid (VY.out.below hbc)
          clear XM0 XM1 XM2 XM3
          clear hal hbc hb
          have XM0 := XM.out.cell 0
          have XM1 := XM.out.cell 1
          have XM2 := fun ob => (XM.out.alloc ob).cell 0
          have XM3 := fun ob => (XM.out.alloc ob).cell 1
          clear XM0 XM1 XM2 XM3
          obtain ⟨T, τ, hcan, hT14, hf1, hf2, hf3⟩ := spans_facts N K hN hK r HRr.out yy
          have HCn := Lib.hid hcan
          have HF1 := Lib.hid hf1
          have HF2 := Lib.hid hf2
          have HF3 := Lib.hid hf3
          obtain ⟨z, hz⟩ : ∃ z, sumr r 0 (el K yy) = z := ⟨_, rfl⟩
          rw [hz] at HF3
          have HZ := Lib.hid hz
          clear hcan hf1 hf2 hf3 hz HV1 HC
          have XM0 := XM.out.cell 0
          have XM1 := XM.out.cell 1
          have XM2 := fun ob => (XM.out.alloc ob).cell 0
          have XM3 := fun ob => (XM.out.alloc ob).cell 1
          go_wp2_with fail
          have hal : Below W3.heap.size W3 W3 := (Below.refl _ _)
          refine (HF1.out o cap W3 M.out HT.out).mono ?_
          rintro e W4 ⟨o4, c4, rfl, hm, hb⟩
          have hbb : Below W3.heap.size W3 W4 := hal.trans (hb.mono hal.size)
          replace MR := Lib.hid (hm)
          replace HB := Lib.hid (HB.out.trans (Joins.below_le hbb HB.out.size))
          replace XM := Lib.hid (XM.out.below hbb XM.out.lt)
          replace HT := Lib.hid (HT.out.here hbb)
          replace M := Lib.hid (M.out.below hbb)
          replace VY := Lib.hid (VY.out.below hbb)
          clear XM0 XM1 XM2 XM3
          clear hal hbb hb hm
          have XM0 := XM.out.cell 0
          have XM1 := XM.out.cell 1
          have XM2 := fun ob => (XM.out.alloc ob).cell 0
          have XM3 := fun ob => (XM.out.alloc ob).cell 1
          go_wp2_with fail
          have hal : Below W4.heap.size W4 (W4.alloc (.cells #[.int .i64 (N : Int), .slice o4 T.length c4] 24)) := ((Below.refl _ _).alloc (by first | exact Nat.le_refl _ | (simp; done) | (simp; omega)) _)
          refine (HF2.out o4 c4 (W4.alloc (.cells #[.int .i64 (N : Int), .slice o4 T.length c4] 24)) (MR.out.below hal) (HT.out.here hal)).mono ?_
          rintro e W5 ⟨o5, c5, rfl, hm, hb⟩
          have hbb : Below W4.heap.size W4 W5 := hal.trans (hb.mono hal.size)
          replace XR := Lib.hid ((Box.new W4 #[.int .i64 (N : Int), .slice o4 T.length c4] 24).below hb (by simp))
          replace MA := Lib.hid (hm)
          replace HB := Lib.hid (HB.out.trans (Joins.below_le hbb HB.out.size))
          replace XM := Lib.hid (XM.out.below hbb XM.out.lt)
          replace HT := Lib.hid (HT.out.here hbb)
          replace M := Lib.hid (M.out.below hbb)
          replace VY := Lib.hid (VY.out.below hbb)
          replace MR := Lib.hid (MR.out.below hbb)
          clear XM0 XM1 XM2 XM3
          clear hal hbb hb hm
          have XM0 := XM.out.cell 0
          have XM1 := XM.out.cell 1
          have XM2 := fun ob => (XM.out.alloc ob).cell 0
          have XM3 := fun ob => (XM.out.alloc ob).cell 1
          have XR0 := XR.out.cell 0
          have XR1 := XR.out.cell 1
          have XR2 := fun ob => (XR.out.alloc ob).cell 0
          have XR3 := fun ob => (XR.out.alloc ob).cell 1
          go_wp2_with fail
          have hal : Below W5.heap.size W5 (W5.alloc (.cells #[.int .i64 (N : Int), .slice o5 T.length c5] 24)) := (Below.refl _ _).alloc (Nat.le_refl _) _
          have XG := Lib.hid (Box.new W5 #[.int .i64 (N : Int), .slice o5 T.length c5] 24)
          obtain ⟨W6, hW6⟩ : ∃ W6, W5.alloc (.cells #[.int .i64 (N : Int), .slice o5 T.length c5] 24) = W6 := ⟨_, rfl⟩
          rw [hW6] at hal XG ⊢
          replace HB := Lib.hid (HB.out.trans (Joins.below_le hal HB.out.size))
          replace XM := Lib.hid (XM.out.below hal XM.out.lt)
          replace HT := Lib.hid (HT.out.here hal)
          replace M := Lib.hid (M.out.below hal)
          replace VY := Lib.hid (VY.out.below hal)
          replace MR := Lib.hid (MR.out.below hal)
          replace XR := Lib.hid (XR.out.below hal XR.out.lt)
          replace MA := Lib.hid (MA.out.below hal)
          clear XM0 XM1 XM2 XM3 XR0 XR1 XR2 XR3
          clear hal hW6
          obtain ⟨us, hul, hrm, hcell, hone⟩ := mx_vals M.out
          have HRm := Lib.hid hrm
          have HClo := Lib.hid (fun V (hV : Below W6.heap.size W6 V) => clone_any K N (by omega) r o cap V (M.out.below hV) us hul (fun h => by
            obtain ⟨b, off, e, hb, hc⟩ := hcell h
            exact ⟨b, off, e, Nat.lt_of_lt_of_le hb hV.size, fun j u hu => (hV.cell (p := ⟨b, off + j, none⟩) hb).trans (hc j u hu)⟩) hone)
          have HSum := Lib.hid (fun V (hV : Below W6.heap.size W6 V) => by
            have h := vz_sum K N (by omega) (by omega) r yy o p cap n cp V (M.out.below hV) (VY.out.below hV)
            rw [HZ.out] at h
            have h2 : Calls Tryd.prog 40 #[.slice o K cap, .slice p n cp] V fun e w' => ∃ vo vn vc, e = .returned (.slice vo vn vc) ∧ Row w' V.heap.size (.slice vo vn vc) (ints (el N z)) ∧ Below V.heap.size V w' := h.mono fun e w' ⟨v, he, hr, hb⟩ => by
              obtain ⟨vo, vc, rfl, _⟩ := hr.lz
              exact ⟨vo, _, vc, he, hr, hb⟩
            exact h2)
          have HLn := Lib.hid hul
          have HS : Hid (∀ V, Below W6.heap.size W6 V → Below W6.heap.size W6 V ∧ V.cell? ⟨w.heap.size, 0, none⟩ = some (.int .i64 (N : Int)) ∧ V.cell? ⟨w.heap.size, 1, none⟩ = some (.slice o K cap)) := Lib.hid fun V hV => ⟨hV, (XM.out.below hV XM.out.lt).cell 0, (XM.out.below hV XM.out.lt).cell 1⟩
          have HK := Lib.hid hK
          clear hrm hcell hone hul
          go_cut [9] (fun x wx => More W6 wx N K r z x)
          case first =>
            try clear HB
            try clear XM
            try clear HT
            try clear M
            try clear VY
            try clear MR
            try clear XR
            try clear MA
            try clear XG
            try clear HF1
            try clear HF2
            try clear HF3
            try clear HCn
            try clear HRr
            try clear HZ
            try clear k1
            try clear k2
            try clear h40
            try clear hyy
            try clear hT14
            try clear hv0
            try clear hN
            try clear h41
            go_region_held3 (fun V => Below W6.heap.size W6 V ∧ V.cell? ⟨w.heap.size, 0, none⟩ = some (.int .i64 (N : Int)) ∧ V.cell? ⟨w.heap.size, 1, none⟩ = some (.slice o K cap)) (first | exact HS.out _ (by assumption) | exact HS.out _ (by first | assumption | exact And.left (by assumption) | exact Below.refl _ _ | exact below_dn 1 (Below.refl _ _)) | exact HS.out _ (Below.alloc (by first | assumption | exact And.left (by assumption) | exact Below.refl _ _ | exact below_dn 1 (Below.refl _ _)) (Below.size (by first | assumption | exact And.left (by assumption) | exact Below.refl _ _ | exact below_dn 1 (Below.refl _ _))) _) | exact HS.out _ (Below.setCell (Below.setCell (by first | assumption | exact And.left (by assumption) | exact Below.refl _ _ | exact below_dn 1 (Below.refl _ _)) (by first | omega | (simp; done) | (simp; omega)) _) (by first | omega | (simp; done) | (simp; omega)) _)) (first | (go_at_call 39; refine (HClo.out _ (by first | assumption | exact And.left (by assumption) | exact Below.refl _ _ | exact below_dn 1 (Below.refl _ _))).mono ?_; rintro e yA ⟨vA, rfl, hown0, hbA⟩; have hown := own_le hown0 (Below.size (by first | assumption | exact And.left (by assumption) | exact Below.refl _ _ | exact below_dn 1 (Below.refl _ _))); have hbWA : Below W6.heap.size W6 yA := Below.trans (by first | assumption | exact And.left (by assumption) | exact Below.refl _ _ | exact below_dn 1 (Below.refl _ _)) (Joins.below_le hbA (Below.size (by first | assumption | exact And.left (by assumption) | exact Below.refl _ _ | exact below_dn 1 (Below.refl _ _)))); have hsA := hbWA.size; clear hown0) | (go_at_call 40; refine (HSum.out _ (by first | assumption | exact And.left (by assumption) | exact Below.refl _ _ | exact below_dn 1 (Below.refl _ _))).mono ?_; rintro e yB ⟨vBo, vBn, vBc, rfl, hrow0, hbB⟩; have hrow := Row.le hrow0 (Below.size (by first | assumption | exact And.left (by assumption) | exact Below.refl _ _ | exact below_dn 1 (Below.refl _ _))); have hbWB : Below W6.heap.size W6 yB := Below.trans (by first | assumption | exact And.left (by assumption) | exact Below.refl _ _ | exact below_dn 1 (Below.refl _ _)) (Joins.below_le hbB (Below.size (by first | assumption | exact And.left (by assumption) | exact Below.refl _ _ | exact below_dn 1 (Below.refl _ _)))); have hsB := hbWB.size; clear hrow0) | (refine step_more _ rfl (.tmp 54) (.tmp 59) rfl W6 vA K N z r us (.slice vBo vBn vBc) _ 9 rfl rfl rfl ?_ ?_ ?_ ?_ HLn.out HRm.out ?_ ?_; (first | exact ownA (ownB hown hbB) _ | exact ownA (ownB (ownA hown _) hbB) _ | exact ownA (ownA (ownB hown hbB) _) _); (first | exact Row.alloc hrow _ | exact Row.alloc (Row.alloc hrow _) _); (first | exact Box.new _ _ _ | exact Box.alloc (Box.new _ _ _) _ | (have hh := Box.new (yB.alloc (.cells #[.int .i64 0, .slice none 0 0] 24)) #[.slice vBo vBn vBc] 25; rw [World.size_alloc] at hh; exact hh)); exact And.left (by assumption); (have := HK.out; omega); intro g9 cp9 y9 hmo hb9) | (refine step_more9 _ rfl (.tmp 54) (.tmp 59) rfl W6 vA K N z r us (.slice vBo vBn vBc) _ 9 _ rfl rfl rfl ?_ ?_ ?_ ?_ ?_ ?_ HLn.out HRm.out ?_ ?_; (first | exact ownA (ownB hown hbB) _ | exact ownA (ownB (ownA hown _) hbB) _ | exact ownA (ownA (ownB hown hbB) _) _); (first | exact Row.alloc hrow _ | exact Row.alloc (Row.alloc hrow _) _); (first | exact Box.new _ _ _ | exact Box.alloc (Box.new _ _ _) _ | (have hh := Box.new (yB.alloc (.cells #[.int .i64 0, .slice none 0 0] 24)) #[.slice vBo vBn vBc] 25; rw [World.size_alloc] at hh; exact hh)); (first | exact Box.alloc (Box.blw (Box.blw (Box.new W6.drew _ _) hbA) hbB) _ | exact Box.alloc (Box.blw (Box.blw (Box.new _ _ _) hbA) hbB) _ | exact Box.alloc (Box.blw (Box.new _ _ _) hbB) _ | exact Box.alloc (Box.new _ _ _) _ | exact Box.new _ _ _ | (have hh := Box.new (yB.alloc (.cells #[.slice vBo vBn vBc] 25)) #[.int .i64 0, .slice none 0 0] 24; rw [World.size_alloc] at hh; exact hh)); (first | exact hsB | exact hsA | exact Nat.le_refl _ | exact Nat.le_succ_of_le hsB); exact And.left (by assumption); (have := HK.out; omega); intro g9 cp9 y9 hmo hb9 h9; have k90 := h9.cell 0; have k91 := h9.cell 1; have l90 := h9.open_ 0; have l91 := h9.open_ 1; try rw [show W6.drew.heap.size = W6.heap.size from rfl] at k90 k91 l90 l91) | fail)
            all_goals
              go_wp2_with fail
              go_meet
              first | exact hmo.fresh | exact hmo.put h9 (by first | exact hsB | exact hsA | exact Nat.le_refl _ | exact Nat.le_succ_of_le hsB)
          case rest =>
            obtain ⟨b9, g9, cap9, rfl, hb, hx9, hm9⟩ := hcut
            try clear HClo HSum HRm HLn HS VY HZ
            obtain ⟨W7, rfl⟩ : ∃ W, W = wc := ⟨_, rfl⟩
            have XS := Lib.hid hx9
            have MS := Lib.hid hm9
            replace HB := Lib.hid (HB.out.trans (Joins.below_le hb HB.out.size))
            replace XM := Lib.hid (XM.out.below hb XM.out.lt)
            replace HT := Lib.hid (HT.out.here hb)
            replace M := Lib.hid (M.out.below hb)
            replace MR := Lib.hid (MR.out.below hb)
            replace XR := Lib.hid (XR.out.below hb XR.out.lt)
            replace MA := Lib.hid (MA.out.below hb)
            replace XG := Lib.hid (XG.out.below hb XG.out.lt)
            clear hb hx9 hm9
            have XM0 := XM.out.cell 0
            have XM1 := XM.out.cell 1
            have XM2 := fun ob => (XM.out.alloc ob).cell 0
            have XM3 := fun ob => (XM.out.alloc ob).cell 1
            have XR0 := XR.out.cell 0
            have XR1 := XR.out.cell 1
            have XR2 := fun ob => (XR.out.alloc ob).cell 0
            have XR3 := fun ob => (XR.out.alloc ob).cell 1
            have XG0 := XG.out.cell 0
            have XG1 := XG.out.cell 1
            have XG2 := fun ob => (XG.out.alloc ob).cell 0
            have XG3 := fun ob => (XG.out.alloc ob).cell 1
            have XS0 := XS.out.cell 0
            have XS1 := XS.out.cell 1
            have XS2 := fun ob => (XS.out.alloc ob).cell 0
            have XS3 := fun ob => (XS.out.alloc ob).cell 1
            go_wp2_with fail
            have hal : Below W7.heap.size W7 W7 := (Below.refl _ _)
            refine (HF3.out _ cap9 W7 MS.out HT.out).mono ?_
            rintro e W8 ⟨o8, c8, rfl, hm, hb⟩
            have hbb : Below W7.heap.size W7 W8 := hal.trans (hb.mono hal.size)
            replace ME := Lib.hid (hm)
            replace HB := Lib.hid (HB.out.trans (Joins.below_le hbb HB.out.size))
            replace XM := Lib.hid (XM.out.below hbb XM.out.lt)
            replace HT := Lib.hid (HT.out.here hbb)
            replace M := Lib.hid (M.out.below hbb)
            replace MR := Lib.hid (MR.out.below hbb)
            replace XR := Lib.hid (XR.out.below hbb XR.out.lt)
            replace MA := Lib.hid (MA.out.below hbb)
            replace XG := Lib.hid (XG.out.below hbb XG.out.lt)
            replace XS := Lib.hid (XS.out.below hbb XS.out.lt)
            replace MS := Lib.hid (MS.out.below hbb)
            clear XM0 XM1 XM2 XM3 XR0 XR1 XR2 XR3 XG0 XG1 XG2 XG3 XS0 XS1 XS2 XS3
            clear hal hbb hb hm
            have XM0 := XM.out.cell 0
            have XM1 := XM.out.cell 1
            have XM2 := fun ob => (XM.out.alloc ob).cell 0
            have XM3 := fun ob => (XM.out.alloc ob).cell 1
            have XR0 := XR.out.cell 0
            have XR1 := XR.out.cell 1
            have XR2 := fun ob => (XR.out.alloc ob).cell 0
            have XR3 := fun ob => (XR.out.alloc ob).cell 1
            have XG0 := XG.out.cell 0
            have XG1 := XG.out.cell 1
            have XG2 := fun ob => (XG.out.alloc ob).cell 0
            have XG3 := fun ob => (XG.out.alloc ob).cell 1
            have XS0 := XS.out.cell 0
            have XS1 := XS.out.cell 1
            have XS2 := fun ob => (XS.out.alloc ob).cell 0
            have XS3 := fun ob => (XS.out.alloc ob).cell 1
            go_wp2_with fail
            have hal : Below W8.heap.size W8 (W8.alloc (.cells #[.int .i64 (N : Int), .slice o8 T.length c8] 24)) := ((Below.refl _ _).alloc (by first | exact Nat.le_refl _ | (simp; done) | (simp; omega)) _)
            refine (same_mx (N : Int) N T.length (by omega) (by omega) (fun i => τ (T.getD i 0)) o4 o5 c4 c5 (W8.alloc (.cells #[.int .i64 (N : Int), .slice o8 T.length c8] 24)) (MR.out.below hal) (MA.out.below hal)).mono ?_
            rintro e W9 ⟨rfl, hb⟩
            have hbb : Below W8.heap.size W8 W9 := hal.trans (hb.mono hal.size)
            replace XE := Lib.hid ((Box.new W8 #[.int .i64 (N : Int), .slice o8 T.length c8] 24).below hb (by simp))
            replace HB := Lib.hid (HB.out.trans (Joins.below_le hbb HB.out.size))
            replace XM := Lib.hid (XM.out.below hbb XM.out.lt)
            replace HT := Lib.hid (HT.out.here hbb)
            replace M := Lib.hid (M.out.below hbb)
            replace MR := Lib.hid (MR.out.below hbb)
            replace XR := Lib.hid (XR.out.below hbb XR.out.lt)
            replace MA := Lib.hid (MA.out.below hbb)
            replace XG := Lib.hid (XG.out.below hbb XG.out.lt)
            replace XS := Lib.hid (XS.out.below hbb XS.out.lt)
            replace MS := Lib.hid (MS.out.below hbb)
            replace ME := Lib.hid (ME.out.below hbb)
            clear XM0 XM1 XM2 XM3 XR0 XR1 XR2 XR3 XG0 XG1 XG2 XG3 XS0 XS1 XS2 XS3
            clear hal hbb hb
            have XM0 := XM.out.cell 0
            have XM1 := XM.out.cell 1
            have XM2 := fun ob => (XM.out.alloc ob).cell 0
            have XM3 := fun ob => (XM.out.alloc ob).cell 1
            have XR0 := XR.out.cell 0
            have XR1 := XR.out.cell 1
            have XR2 := fun ob => (XR.out.alloc ob).cell 0
            have XR3 := fun ob => (XR.out.alloc ob).cell 1
            have XG0 := XG.out.cell 0
            have XG1 := XG.out.cell 1
            have XG2 := fun ob => (XG.out.alloc ob).cell 0
            have XG3 := fun ob => (XG.out.alloc ob).cell 1
            have XS0 := XS.out.cell 0
            have XS1 := XS.out.cell 1
            have XS2 := fun ob => (XS.out.alloc ob).cell 0
            have XS3 := fun ob => (XS.out.alloc ob).cell 1
            have XE0 := XE.out.cell 0
            have XE1 := XE.out.cell 1
            have XE2 := fun ob => (XE.out.alloc ob).cell 0
            have XE3 := fun ob => (XE.out.alloc ob).cell 1
            go_wp2_with fail
            have hal : Below W9.heap.size W9 W9 := (Below.refl _ _)
            refine (same_mx (N : Int) N T.length (by omega) (by omega) (fun i => τ (T.getD i 0)) o4 o8 c4 c8 W9 (MR.out.below hal) (ME.out.below hal)).mono ?_
            rintro e W10 ⟨rfl, hb⟩
            have hbb : Below W9.heap.size W9 W10 := hal.trans (hb.mono hal.size)
            replace HB := Lib.hid (HB.out.trans (Joins.below_le hbb HB.out.size))
            replace XM := Lib.hid (XM.out.below hbb XM.out.lt)
            replace HT := Lib.hid (HT.out.here hbb)
            replace M := Lib.hid (M.out.below hbb)
            replace MR := Lib.hid (MR.out.below hbb)
            replace XR := Lib.hid (XR.out.below hbb XR.out.lt)
            replace MA := Lib.hid (MA.out.below hbb)
            replace XG := Lib.hid (XG.out.below hbb XG.out.lt)
            replace XS := Lib.hid (XS.out.below hbb XS.out.lt)
            replace MS := Lib.hid (MS.out.below hbb)
            replace ME := Lib.hid (ME.out.below hbb)
            replace XE := Lib.hid (XE.out.below hbb XE.out.lt)
            clear XM0 XM1 XM2 XM3 XR0 XR1 XR2 XR3 XG0 XG1 XG2 XG3 XS0 XS1 XS2 XS3 XE0 XE1 XE2 XE3
            clear hal hbb hb
            clear XS XE XG MS ME MA HF1 HF2 HF3
            have XM0 := XM.out.cell 0
            have XM1 := XM.out.cell 1
            have XM2 := fun ob => (XM.out.alloc ob).cell 0
            have XM3 := fun ob => (XM.out.alloc ob).cell 1
            have XR0 := XR.out.cell 0
            have XR1 := XR.out.cell 1
            have XR2 := fun ob => (XR.out.alloc ob).cell 0
            have XR3 := fun ob => (XR.out.alloc ob).cell 1
            go_wp2_with fail
            go_loopw [88] (fun j wr => ∃ c : Nat, c ≤ K ∧ j = .int .i64 (c : Int) ∧ Below W10.heap.size W10 wr) (fun j _ => K - (intOf j).toNat)
            case atStart => exact ⟨0, by omega, by first | trivial | rfl, Below.refl _ _⟩
            case round =>
              obtain ⟨c, hc, rfl, hbe⟩ := hrel
              have HBe := Lib.hid hbe
              have HBr := Lib.hid (HB.out.trans (hbe.mono HB.out.size))
              clear XM0 XM1 XM2 XM3 XR0 XR1 XR2 XR3
              by_cases hlt : c < K
              · have hc1 : (c : Int) < (K : Int) := by omega
                obtain ⟨b, off, oc', n', cp', rfl, hbl, hcl, hvz⟩ := (M.out.below hbe).vz2 hlt
                have hXr := XR.out.below hbe XR.out.lt
                have XR1 := hXr.cell 1
                have HXr := Lib.hid hXr
                have HMr := Lib.hid (MR.out.below hbe)
                have HVz := Lib.hid hvz
                clear hbe hbl hvz hXr
                go_wp2_with fail
                go_loopw [14, 96] (fun v j wl => ∃ i : Nat, i ≤ T.length ∧ j = .int .i64 (i : Int) ∧ (∃ lo ln lc, v = .slice lo ln lc ∧ Vz wl lo ln N (lft T τ (r c) i)) ∧ Below wr.heap.size wr wl) (fun _ j _ => T.length - (intOf j).toNat)
                case atStart => exact ⟨0, by omega, by first | trivial | rfl, ⟨_, _, _, rfl, by rw [lft_zero]; exact HVz.out⟩, Below.refl _ _⟩
                case round =>
                  obtain ⟨i, hi, rfl, ⟨lo, ln, lc, rfl, hv⟩, hbl⟩ := hrel
                  have HV := Lib.hid hv
                  have HBl := Lib.hid hbl
                  clear XR1 hcl
                  by_cases hli : i < T.length
                  · have hi1 : (i : Int) < (T.length : Int) := by omega
                    have hpT := HCn.out.getD_mem hli
                    have hpN := HCn.out.lt _ hpT
                    obtain ⟨hpf, hpl⟩ := el_first (HCn.out.ld hpT) hpN
                    obtain ⟨bR, oR, ox, nx, cx, rfl, hbR, hclR, hvR⟩ := (HMr.out.below hbl).vz2 hli
                    have hst := lft_step (T := T) τ (r c) hli
                    obtain ⟨x, hx⟩ : ∃ x, T.getD i 0 = x := ⟨_, rfl⟩
                    simp only [hx] at hpf hpl hvR hst hpN
                    have hnx : 0 < nx := by rw [hvR.1]; exact hpl
                    obtain ⟨bl, ofs, rfl, hbl2, hcc⟩ := hvR.2 hnx
                    have e3 := hcc 0 hnx
                    unfold lz at e3
                    rw [hpf, Nat.add_zero] at e3
                    have hn1 : (0 : Int) < (nx : Int) := by omega
                    have hn0 : ¬ (nx : Int) = 0 := by omega
                    have hn2 : ¬ nx = 0 := by omega
                    have HCo := Lib.hid (vz_contains N (r c) x (by omega) hpN oc' n' cp' wr (HVz.out.below hbl))
                    have HPl := Lib.hid (vz_plus N (lft T τ (r c) i) (τ x) (by omega) lo (some ⟨bl, ofs, none⟩) ln lc nx cx wr hv hvR)
                    have HSt := Lib.hid hst
                    obtain ⟨q, hq⟩ : ∃ q, (r c).testBit x = q := ⟨_, rfl⟩
                    rw [hq] at HCo HSt
                    clear hv hbl hpT hpN hpf hpl hbR hvR hst hx hbl2 hcc hq
                    cases q with
                    | true =>
                      go_wp2_with fail
                      refine HCo.out.mono ?_
                      rintro e w' ⟨rfl, rfl⟩
                      go_wp2_with fail
                      refine HPl.out.mono ?_
                      rintro e w4 ⟨po, pn, pc, rfl, hvp, hb4⟩
                      have HVp := Lib.hid hvp
                      have HB4 := Lib.hid (HBl.out.trans (Joins.below_le hb4 HBl.out.size))
                      clear hvp hb4
                      go_wp2_with fail
                      go_roundw
                      case rel => exact ⟨i + 1, by omega, by go_num, ⟨_, _, _, rfl, by rw [HSt.out, if_pos (by first | trivial | rfl)]; exact HVp.out⟩, HB4.out⟩
                      case measure => simp [intOf]; omega
                    | false =>
                      go_wp2_with fail
                      refine HCo.out.mono ?_
                      rintro e w' ⟨rfl, rfl⟩
                      go_wp2_with fail
                      go_roundw
                      case rel => exact ⟨i + 1, by omega, by go_num, ⟨_, _, _, rfl, by rw [HSt.out, if_neg (by simp)]; exact HV.out⟩, HBl.out⟩
                      case measure => simp [intOf]; omega
                  · have e : T.length = i := by omega
                    subst e
                    rw [lft_end HCn.out (rows_sp hlt)] at hv
                    obtain rfl := hv.len0
                    have HF := Lib.hid (HBe.out.trans (hbl.mono HBe.out.size))
                    clear hv hbl hli HV
                    go_wp2_with fail
                    go_roundw
                    case rel => exact ⟨c + 1, by omega, by go_num, HF.out⟩
                    case measure => simp [intOf]; omega
              · have e : c = K := by omega
                subst e
                have HA := Lib.hid (awake_ok wr (HT.out.here hbe))
                clear hlt hbe
                go_wp2_with fail
                refine HA.out.mono ?_
                rintro e w' ⟨rfl, hb⟩
                have HE := Lib.hid (HBr.out.trans (hb.mono HBr.out.size))
                clear hb
                go_wp2_with fail
                go_ret
                exact ⟨rfl, HE.out⟩
        · have g1 : (vb != 0) = true := by rw [bne_iff_ne]; exact hv0
          go_wp2_with fail
          have hal : Below W2.heap.size W2 W2 := Below.refl _ _
          refine (HV1.out).mono ?_
          rintro e W3 ⟨rfl, hb⟩
          have hbc : Below W2.heap.size W2 W3 := hal.trans (hb.mono hal.size)
          replace HB := Lib.hid (HB.out.trans (Joins.below_le hbc HB.out.size))
          replace XM := Lib.hid (XM.out.below hbc XM.out.lt)
          replace HT := Lib.hid (HT.out.here hbc)
          replace M := Lib.hid (M.out.below hbc)
          replace HLb := Lib.hid (HLb.out.below hbc)
          clear XM0 XM1 XM2 XM3
          clear hal hbc hb
          have XM0 := XM.out.cell 0
          have XM1 := XM.out.cell 1
          have XM2 := fun ob => (XM.out.alloc ob).cell 0
          have XM3 := fun ob => (XM.out.alloc ob).cell 1
          have HA := Lib.hid (awake_ok W3 HT.out)
          go_wp2_with fail
          refine HA.out.mono ?_
          rintro e w' ⟨rfl, hb⟩
          have HE := Lib.hid (HB.out.trans (hb.mono HB.out.size))
          clear hb
          go_wp2_with fail
          go_ret
          exact ⟨rfl, HE.out⟩

end Go.Proofs.YtbefkngeffpokaaDoor
