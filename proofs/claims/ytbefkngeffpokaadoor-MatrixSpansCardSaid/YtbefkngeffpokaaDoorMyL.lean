/- Echelon of the package, of matrices that are well-formed. -/
import Derived.Test.YtbefkngeffpokaaDoorMyK
import Derived.WalkKit
import Derived.WalkSpells
import Derived.WalkLawsBesides
import Derived.Handy
import Derived.Deep.QuietTactic
import Derived.BigQuiet
import Derived.Outline
import Derived.Laws.BitsAllLaws
import Derived.IntWalk
import Derived.Lib.SmallJoins
import Derived.Lib.Hide
import Derived.Deep.DeepCutAuto
import Derived.LoopTactic
import Derived.Deep.RegionWith
import Derived.Laws.CopyOwn
import Derived.Maps.OwnOps
import Derived.Maps.OwnSet
import Derived.Laws.OwnMore
import Derived.Maps.AppendAt
import Derived.RangeFuncNested
import Derived.RangeFuncBound
import Derived.RangeFuncCalls
import Derived.RangeFuncLeaves
import Derived.RangeFuncBox
import Derived.RangeFuncFrom
import Derived.Shelf.Abstract
import Derived.Shelf.RegionOpen
import Derived.OwnWalkIn
import Derived.TacticsInMore
import Derived.LoopNIn
import Derived.LoopIn
import Derived.Deep.RegionHeld3
import Derived.RegionTactic
import Derived.ChangeAlike
namespace Go.Proofs.YtbefkngeffpokaaDoor
set_option linter.unusedVariables false
set_option linter.unusedSimpArgs false
open Go.RowKit


set_option maxRecDepth 100000 in
set_option maxHeartbeats 8000000 in
theorem ech_good (C K : Nat) (hC : C ≤ 31) (hK : K ≤ 31) (r : Nat → Nat) (hr : ∀ i, i < K → r i < 2 ^ C) (T : List Nat) (τ : Nat → Nat) (hcan : Can C (rows K r) T τ) (hSort : SortP) (o : Option Addr) (cap : Nat) (w : World) (hM : Mx w o K C r) (hTb : Tb w) :
    Calls Tryd.prog 26 #[mv (C : Int) o K cap] w (MRes C T.length (fun i => τ (T.getD i 0)) 0 w) := by
  obtain ⟨f1, f2, f3⟩ := w2_facts w (C : Int) o K cap
  obtain ⟨S, hS⟩ : ∃ n, w.heap.size = n := ⟨_, rfl⟩
  have hTl := hcan.len_leC
  have H := Lib.hid (check_mx C K (by omega) (by omega) r o cap _ (hM.below f1))
  have HT := Lib.hid (fun W (h : Below w.heap.size w W) => reduce_ok C K hC hK r hr o cap W (hM.below h) (hTb.here h) hSort)
  have HRr := Lib.hid hr
  have HCan := Lib.hid hcan
  have HB := Lib.hid f1
  have HA := Lib.hid f2
  have HR := Lib.hid f3
  have HTb := Lib.hid hTb
  have HLt := Lib.hid (fun c (hc : c ∈ T) => Nat.lt_of_lt_of_le (hcan.bnd (N := C) (fun x hx => by obtain ⟨i, hi, rfl⟩ := rows_mem.1 hx; exact hr i hi) c) (Nat.pow_le_pow_right (n := 2) (by omega) (show C ≤ 32 by omega)))
  unfold mv at H HT ⊢
  clear hM f1 f2 f3 hr hcan hTb
  go_enter Tryd.func26, Tryd.ntmps26
  go_wp2_with fail
  refine H.out.mono ?_
  rintro e W1 ⟨rfl, hb1⟩
  have hr1 := HR.out.below hb1 HR.out.lt
  have ha1 := HA.out.below hb1 HA.out.lt
  rw [hS] at hr1 ha1
  have q0 := ha1.cell 0
  have q1 := ha1.cell 1
  have HB1 := Lib.hid (HB.out.trans (Joins.below_le hb1 HB.out.size))
  have HR1 := Lib.hid hr1
  have HA1 := Lib.hid ha1
  have HSl := Lib.hid (show S + 1 < W1.heap.size from HR1.out.lt)
  clear hb1 hr1 ha1 HR HA H HB
  go_wp2_with fail
  refine (HT.out _ HB1.out).mono ?_
  rintro e W2 ⟨J, L', bl, ρ, rv, lv, Q, M, rfl, hst, hp, hbk, hb2⟩
  obtain ⟨hLT, hρ⟩ := red_can HRr.out hbk HCan.out
  subst hLT
  obtain ⟨ol, cl, rfl, _⟩ := hst.lds.shape' (ints_len L')
  obtain ⟨orv, crv, rfl⟩ := hst.rform
  have hr1 := HR1.out.below hb2 HR1.out.lt
  have ha1 := HA1.out.below hb2 HA1.out.lt
  have q0 := ha1.cell 0
  have q3 : ∀ ob, (W2.alloc ob).cell? ⟨S, 0, none⟩ = some (.int .i64 (C : Int)) := fun ob => (ha1.alloc ob).cell 0
  have HB2 := Lib.hid (HB1.out.trans (Joins.below_le hb2 HB1.out.size))
  have HR2 := Lib.hid hr1
  have HA2 := Lib.hid ha1
  have HS2 := Lib.hid hst
  have HMem := Lib.hid (show ∀ c, c ∈ L' ↔ c ∈ J from fun c => hp.mem_iff)
  have HRho := Lib.hid hρ
  have HSl2 := Lib.hid (show S + 1 < W2.heap.size from HR2.out.lt)
  clear hb2 hr1 ha1 hst hp hbk hρ HB1 HR1 HA1 HT
  go_wp2_with fail
  have hx1 := (Box.new W2 #[.slice orv J.length crv, .map (some M), .slice ol L'.length cl, .slice none 0 0] 82).alloc (.cells #[.int .i64 (C : Int), .slice none 0 0] 24)
  have hx2 := Box.new (W2.alloc (.cells #[.slice orv J.length crv, .map (some M), .slice ol L'.length cl, .slice none 0 0] 82)) #[.int .i64 (C : Int), .slice none 0 0] 24
  rw [World.size_alloc] at hx2
  have hba := (HA2.out.alloc (.cells #[.slice orv J.length crv, .map (some M), .slice ol L'.length cl, .slice none 0 0] 82)).alloc (.cells #[.int .i64 (C : Int), .slice none 0 0] 24)
  have hbr := (HR2.out.alloc (.cells #[.slice orv J.length crv, .map (some M), .slice ol L'.length cl, .slice none 0 0] 82)).alloc (.cells #[.int .i64 (C : Int), .slice none 0 0] 24)
  have hbw := (HB2.out.alloc HB2.out.size (.cells #[.slice orv J.length crv, .map (some M), .slice ol L'.length cl, .slice none 0 0] 82)).alloc (by have := HB2.out.size; simp; omega) (.cells #[.int .i64 (C : Int), .slice none 0 0] 24)
  have hbs := (HS2.out.alloc (.cells #[.slice orv J.length crv, .map (some M), .slice ol L'.length cl, .slice none 0 0] 82)).alloc (.cells #[.int .i64 (C : Int), .slice none 0 0] 24)
  obtain ⟨W, hW⟩ : ∃ W, (W2.alloc (.cells #[.slice orv J.length crv, .map (some M), .slice ol L'.length cl, .slice none 0 0] 82)).alloc (.cells #[.int .i64 (C : Int), .slice none 0 0] 24) = W := ⟨_, rfl⟩
  obtain ⟨Y, hY⟩ : ∃ Y, W2.heap.size = Y := ⟨_, rfl⟩
  have hstY : Below Y W2 W := by rw [← hY, ← hW]; exact ((Below.refl W2.heap.size W2).alloc (Nat.le_refl _) (.cells #[.slice orv J.length crv, .map (some M), .slice ol L'.length cl, .slice none 0 0] 82)).alloc (by simp) (.cells #[.int .i64 (C : Int), .slice none 0 0] 24)
  rw [hW] at hx1 hx2 hba hbr hbw hbs ⊢
  rw [hY] at hx1 hx2 HSl2 ⊢
  have HX1 := Lib.hid hx1
  have HO := Lib.hid hx2
  have HA := Lib.hid hba
  have HR := Lib.hid hbr
  have HBW := Lib.hid hbw
  have HY := Lib.hid hY
  have HSY := Lib.hid hstY
  have HSw := Lib.hid hS
  clear hW hY hx1 hx2 hba hbr hbw hbs hstY q0 q1 q3 hS HA2 HR2 HB2
  obtain ⟨L, hL⟩ : ∃ L : Nat → List Int, (fun i => ints (el C (τ (L'.getD i 0)))) = L := ⟨_, rfl⟩
  have HL := Lib.hid hL
  clear hL
  go_loopw [23] (fun j wr => ∃ (k : Nat) (v : Value) (vs : List Value), k ≤ L'.length ∧ j = .int .i64 (k : Int) ∧ Out W wr (Y + 1) (C : Int) k L v vs) (fun j _ => L'.length - (intOf j).toNat)
  case atStart => exact ⟨0, _, [], by omega, by first | trivial | rfl, HO.out, Rws.nil _ _ _, Below.refl _ _⟩
  case round =>
    obtain ⟨k, v, vs, hk, rfl, ho⟩ := hrel
    have hxs := HSl2.out
    have hob := ho.bel
    have hAo := HA.out.below hob (by omega)
    have hXo := HX1.out.below hob (by omega)
    have hSo : St wr Q M (.slice orv J.length crv) (.slice ol L'.length cl) (.slice orv J.length crv) (.slice ol L'.length cl) J J L' bl ρ := HS2.out.below (by rw [HY.out]; exact HSY.out.trans (hob.mono (by omega)))
    have c0 := hAo.cell 0
    have r0 := hXo.cell 0
    have r1 := hXo.cell 1
    have r2 := hXo.cell 2
    have c3 := ho.box.cell 1
    have HOu := Lib.hid ho
    by_cases hlt : k < L'.length
    · have hk1 : (k : Int) < (L'.length : Int) := by omega
      obtain ⟨gl, cgl, hlv, hcl⟩ := hSo.lead_at hlt
      obtain rfl := (Value.slice.inj hlv).1
      clear hlv
      have hmT := HCan.out.getD_mem hlt
      have hLk : L k = ints (el C (ρ (L'.getD k 0))) := by rw [← HL.out, HRho.out _ hmT]
      obtain ⟨c, hc⟩ : ∃ c, L'.getD k 0 = c := ⟨_, rfl⟩
      rw [hc] at hcl hmT hLk
      have hmJ := (HMem.out c).1 hmT
      have hcC := HCan.out.lt c hmT
      have hx32 := HLt.out c hmT
      rw [← HRho.out c hmT] at hx32
      have hlk := hSo.piv.look (c := c) (by omega)
      have hlk2 := (show Piv wr.drew M J.length J from hSo.piv).look (c := c) (by omega)
      obtain ⟨gr, cgr, hrv, hrc⟩ := hSo.at_ hmJ
      obtain rfl := (Value.slice.inj hrv).1
      clear hrv
      have hpx := pix_lt hmJ
      obtain ⟨px, hpxe⟩ : ∃ x, pix J c = x := ⟨_, rfl⟩
      rw [hpxe] at hlk hlk2 hrc hpx
      have hp1 : (px : Int) < (J.length : Int) := by omega
      have hsum : ∀ V, Below wr.heap.size wr V → Calls Tryd.prog 53 #[.slice (some ⟨bl c, 0, none⟩) 1 1, .int .i64 (C : Int)] V fun e y => ∃ o1 n2 c1, e = .returned (.slice o1 n2 c1) ∧ Row y (Y + 1 + 1) (.slice o1 n2 c1) (L k) ∧ Out W y (Y + 1) (C : Int) k L v vs ∧ ((Value.slice o1 n2 c1).ownBlock = none ∨ (Value.slice o1 n2 c1).ownBlock ≠ v.ownBlock) ∧ Y + 1 + 1 ≤ y.heap.size := fun V hV => by
        have hTV : Tb V := HTb.out.here ((HBW.out.trans (hob.mono (by have := HSw.out; omega))).trans (hV.mono (by have := ho.box.lt; have := HSw.out; omega)))
        refine (list_ok (bl c) (ρ c) C hx32 hC V ((hSo.bts c hmJ).below hV (Box.lt (hSo.bts c hmJ))) hTV).mono ?_
        rintro e y ⟨u, rfl, hr, hb⟩
        have hoV := ho.below hV
        have hlV := hoV.box.lt
        rw [← hLk] at hr
        obtain ⟨o1, c1, rfl, _⟩ := hr.shape
        exact ⟨o1, _, c1, rfl, hr.le hlV, hoV.below hb, hoV.rws.new hr, by have := hb.size; omega⟩
      have HSum := Lib.hid hsum
      clear hsum hSo hAo hXo hob ho hc hmT hmJ hcC hx32 hLk hpxe
      go_wp2_with fail
      go_region_law (first | (go_simp; go_at_call 53; refine (HSum.out _ (by first | exact Below.refl _ _ | exact below_dn 1 (Below.refl _ _) | assumption)).mono ?_; rintro e y ⟨o1, n2, c2, rfl, hru, hou, hux, hsz⟩; have q3 : y.cell? ⟨Y + 1, 1, none⟩ = some v := hou.box.cell 1; have q5 : ∀ ob, (y.alloc ob).cell? ⟨Y + 1, 1, none⟩ = some v := fun ob => (hou.box.alloc ob).cell 1; have hbel1 := hou.bel; dsimp only) | (refine step_app _ rfl (.tmp 28) (.tmp 40) rfl (Y + 1 + 1) v k vs L (.slice o1 n2 c2) _ rfl (hou.rws.below (by first | exact Below.refl _ _ | exact (Below.refl _ _).alloc (Nat.le_refl _) _ | exact below_dn 1 ((Below.refl _ _).alloc (Nat.le_refl _) _) | exact (below_dn 1 (Below.refl _ _)).alloc (Nat.le_refl _) _)) (Row.below hru (by first | exact Below.refl _ _ | exact (Below.refl _ _).alloc (Nat.le_refl _) _ | exact below_dn 1 ((Below.refl _ _).alloc (Nat.le_refl _) _) | exact (below_dn 1 (Below.refl _ _)).alloc (Nat.le_refl _) _)) hux rfl (news_one _ _ _) (by omega) (by simp; omega) ?_; intro g cv w1 hr1 hb1; have ho1 := hou.app (by first | exact Below.refl _ _ | exact (Below.refl _ _).alloc (Nat.le_refl _) _ | exact below_dn 1 ((Below.refl _ _).alloc (Nat.le_refl _) _) | exact (below_dn 1 (Below.refl _ _)).alloc (Nat.le_refl _) _) hr1 hb1; have q4 := ho1.box.cell 1; have g4 := ho1.box.open_ 1; have hbel2 := ho1.bel))
      all_goals
        go_wp2_with fail
        go_roundw
        case rel => exact ⟨k + 1, _, _, by omega, by go_num, Out1.fin (by assumption)⟩
        case measure => simp [intOf]; omega
    · have e : L'.length = k := by omega
      subst e
      have hRr := HR.out.below hob (by omega)
      have d0 := hRr.cell 0
      have d1 := hRr.cell 1
      have f0 := hRr.open_ 0
      have f1 := hRr.open_ 1
      have c4 := ho.box.cell 0
      obtain ⟨ov, cv, rfl, _⟩ := ho.rws.ls
      have hfb := (hRr.set 0 (.int .i64 (C : Int))).set 1 (.slice ov L'.length cv)
      have hfr := ((ho.rws.set (b := S + 1) (i := 0) (by omega) (.int .i64 (C : Int))).set (b := S + 1) (i := 1) (by omega) (.slice ov L'.length cv))
      have hfw := (((HBW.out.trans (hob.mono (by have := HSw.out; omega))).setCell (p := ⟨S + 1, 0, none⟩) (by show w.heap.size ≤ S + 1; have := HSw.out; omega) (.int .i64 (C : Int))).setCell (p := ⟨S + 1, 1, none⟩) (by show w.heap.size ≤ S + 1; have := HSw.out; omega) (.slice ov L'.length cv))
      have HFB := Lib.hid hfb
      rw [← HL.out] at hfr
      have hmx : Mn w.heap.size _ ov L'.length cv C (fun i => τ (L'.getD i 0)) := ⟨vs, hfr.le (by have := HSw.out; omega)⟩
      have HMX := Lib.hid hmx
      have HFW := Lib.hid hfw
      clear hlt hxs ho hob hfb hfr hfw hmx hRr hAo hXo hSo
      go_wp2_with fail
      have z0 := HFB.out.cell 0
      have z1 := HFB.out.cell 1
      simp at z0 z1
      refine bodyPost_ret (v := .tuple #[.agg #[.int .i64 (C : Int), .slice ov L'.length cv], .int .i64 0]) (by simp [results, Tryd.results26, go_sem, z0, z1]) rfl ⟨_, _, rfl, HMX.out, HFW.out⟩

end Go.Proofs.YtbefkngeffpokaaDoor
