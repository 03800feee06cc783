/- The specification's Solution and Solve. -/
import Derived.Test.YtbefkngeffpokaaDoorMyO
import Derived.Test.YtbefkngeffpokaaDoorMxV
import Derived.Test.YtbefkngeffpokaaDoorMyJ
import Derived.WalkKit
import Derived.WalkSpells
import Derived.WalkLawsBesides
import Derived.Handy
import Derived.Deep.QuietTactic
import Derived.BigQuiet
import Derived.Outline
import Derived.Laws.BitsAllLaws
import Derived.IntWalk
import Derived.Lib.SmallJoins
import Derived.Lib.Hide
import Derived.Deep.DeepCutAuto
import Derived.LoopTactic
import Derived.Deep.RegionWith
import Derived.Laws.CopyOwn
import Derived.Maps.OwnOps
import Derived.Maps.OwnSet
import Derived.Laws.OwnMore
import Derived.Maps.AppendAt
import Derived.RangeFuncNested
import Derived.RangeFuncBound
import Derived.RangeFuncCalls
import Derived.RangeFuncLeaves
import Derived.RangeFuncBox
import Derived.RangeFuncFrom
import Derived.Shelf.Abstract
import Derived.Shelf.RegionOpen
import Derived.OwnWalkIn
import Derived.TacticsInMore
import Derived.LoopNIn
import Derived.LoopIn
import Derived.Deep.RegionHeld3
import Derived.RegionTactic
import Derived.ChangeAlike
namespace Go.Proofs.YtbefkngeffpokaaDoor
set_option linter.unusedVariables false
set_option linter.unusedSimpArgs false
open Go.RowKit


/-- A list of numbers is appended to nothing. -/
theorem app_list (l : List Nat) (hl : l.length ≤ 1000) (o : Option Addr) (cap : Nat) (W : World) (hL : Lz W o l.length (lz l)) : ∃ v' w1, (Builtin.append_ #[25, 25] 25 #[.slice none 0 0, .slice o l.length cap]).run Tryd.prog W = .ok v' w1 ∧ Row w1 W.heap.size v' (ints l) ∧ Below W.heap.size W w1 := by
  obtain ⟨i0, hi, hz0, hz1, hz2⟩ := info_parts infoI
  cases l with
  | nil =>
    refine ⟨.slice none 0 0, W, ?_, Row.nil _ _, Below.refl _ _⟩
    cases o <;> simp [Builtin.append_, run_underlying Tryd.underlying25, sizeOf, typeInfo, hi, storeCells, Builtin.lenOf, Builtin.firstCells, loadCells, loadCellsFrom]
  | cons z zs =>
    obtain ⟨b, off, rfl, hb, hc⟩ := hL (by simp)
    have hlen := ints_len (z :: zs)
    obtain ⟨v', w', hr, hown, hgrow, _, hat⟩ := run_append_own_at (P := Tryd.prog) W W.heap.size 25 25 3 i0 (.int .i64 0) 1 8 Tryd.underlying25 hi hz0 hz1 hz2 rfl (by decide) (.slice none 0 0) 0 [] (World.ownsRow_nil _ _ _ _) ⟨b, off, none⟩ (z :: zs).length cap (lsv (ints (z :: zs))) (by unfold lsv ints; simp) (fun j x hx => by
      unfold lsv ints at hx
      rw [List.getElem?_map, List.getElem?_map] at hx
      by_cases hj : j < (z :: zs).length
      · rw [List.getElem?_eq_getElem hj] at hx
        simp only [Option.map_some] at hx
        rw [addr_add, ← Option.some.inj hx]
        have h1 := hc j hj
        unfold lz at h1
        rw [List.getD_eq_getElem?_getD, List.getElem?_eq_getElem hj] at h1
        exact h1
      · rw [List.getElem?_eq_none (by omega)] at hx
        simp at hx) (fun x hx => by
      obtain ⟨i, hi, rfl⟩ := List.mem_map.1 hx
      rfl) (by unfold maxLen; omega) (by simp at hl ⊢; omega) (Nat.le_refl _)
    rw [Nat.zero_add, List.nil_append] at hown
    refine ⟨v', w', hr, ?_, (Below.refl _ _).grown hgrow (Nat.le_refl _) (fun k hk => by simp [Value.ownBlock] at hk)⟩
    unfold Row
    rw [hlen]
    exact hown
theorem wide_el {C b i : Nat} {r : Nat → Nat} (h : r i < 2 ^ C) : el (C + 1) (wide C r b i) = if b.testBit i then el C (r i) ++ [C] else el C (r i) := by
  have e : el C (wide C r b i) = el C (r i) := by
    refine asc_ext (el_asc _ _) (el_asc _ _) fun q => ?_
    rw [el_mem, el_mem, wide_bit h]
    constructor
    · rintro ⟨h1, h2⟩
      rw [if_pos h1] at h2
      exact ⟨h1, h2⟩
    · rintro ⟨h1, h2⟩
      exact ⟨h1, by rw [if_pos h1]; exact h2⟩
  rw [el_succ, e, wide_bit h, if_neg (Nat.lt_irrefl _), if_pos rfl]
theorem wide_small {C K b : Nat} {r : Nat → Nat} (hr : ∀ i, i < K → r i < 2 ^ C) : ∀ i, i < K → wide C r b i < 2 ^ (C + 1) := fun i hi => by
  have h1 := hr i hi
  apply Nat.lt_pow_two_of_testBit
  intro q hq
  rw [wide_bit h1, if_neg (by omega), if_neg (by omega)]
/-- What Solution returns. -/
def RSol (C : Nat) (T : List Nat) (σ : Nat → Nat) (w : World) (e : Ending) (w' : World) : Prop := Below w.heap.size w w' ∧ ((C ∈ T ∧ e = .returned (.tuple #[.slice none 0 0, .bool false])) ∨ (C ∉ T ∧ ∃ xo xc, e = .returned (.tuple #[.slice xo (sol C T σ).length xc, .bool true]) ∧ Lz w' xo (sol C T σ).length (lz (sol C T σ))))
set_option maxRecDepth 100000 in
set_option maxHeartbeats 4000000 in
theorem solution_ok (C K : Nat) (hCK : C + 1 + K ≤ 31) (r : Nat → Nat) (hr : ∀ i, i < K → r i < 2 ^ C) (bb : Nat) (hbb : bb < 2 ^ K) (T : List Nat) (σ : Nat → Nat) (hcan : Can (C + 1) (rows K (wide C r bb)) T σ) (o p : Option Addr) (cap cp : Nat) (w : World) (hM : Mx w o K C r) (hL : Lz w p (el K bb).length (lz (el K bb))) :
    Calls Tryd.prog 61 #[mv (C : Int) o K cap, .slice p (el K bb).length cp] w (RSol C T σ w) := by
  have hC : C ≤ 31 := by omega
  have hK : K ≤ 31 := by omega
  have hTl := hcan.len_leC
  obtain ⟨S, hS⟩ : ∃ n, w.heap.size = n := ⟨_, rfl⟩
  have HM := Lib.hid hM
  have HL := Lib.hid (fun W (h : Below w.heap.size w W) (i : Nat) => has_mem (el K bb) (by have := el_len K bb; omega) i p cp W (hL.below h))
  have HRd := Lib.hid (fun (o' : Option Addr) (cap' : Nat) (W : World) (hm : Mx W o' K (C + 1) (wide C r bb)) => reduced_ok (C + 1) K (by omega) hK (wide C r bb) (wide_small hr) T σ hcan o' cap' W W.heap.size (Nat.le_refl _) (hm.gs (Below.refl _ _)))
  have e1c : ((C + 1 : Nat) : Int) = (C : Int) + 1 := by omega
  have HWe := Lib.hid (fun i (hi : i < K) => wide_el (b := bb) (hr i hi))
  have HCn := Lib.hid hcan
  have HRr := Lib.hid hr
  have HSw := Lib.hid hS
  obtain ⟨nb, hnb⟩ : ∃ n, (el K bb).length = n := ⟨_, rfl⟩
  rw [hnb] at HL ⊢
  unfold mv at HRd ⊢
  simp only [e1c] at HRd
  clear e1c
  clear hM hL hcan hr hnb
  go_enter Tryd.func61, Tryd.ntmps61
  go_wp2_with fail
  have hbW := Lib.hid (((Below.refl w.heap.size w).alloc (Nat.le_refl _) (.cells #[.int .i64 (C : Int), .slice o K cap] 24)).alloc (by simp) (.cells #[.int .i64 ((C : Int) + 1), .slice none 0 0] 24))
  have b0 := (Box.new w #[.int .i64 (C : Int), .slice o K cap] 24).alloc (.cells #[.int .i64 ((C : Int) + 1), .slice none 0 0] 24)
  have b3 := Box.new (w.alloc (.cells #[.int .i64 (C : Int), .slice o K cap] 24)) #[.int .i64 ((C : Int) + 1), .slice none 0 0] 24
  obtain ⟨W, hW⟩ : ∃ W, (w.alloc (.cells #[.int .i64 (C : Int), .slice o K cap] 24)).alloc (.cells #[.int .i64 ((C : Int) + 1), .slice none 0 0] 24) = W := ⟨_, rfl⟩
  rw [hW] at hbW b0 b3 ⊢
  simp only [World.size_alloc, hS] at b0 b3 hbW
  have hsW : W.heap.size = S + 1 + 1 := by rw [← hW]; simp [hS]
  have HA := Lib.hid b0
  have HO := Lib.hid b3
  have HsW := Lib.hid hsW
  clear hW b0 b3 hsW hS
  obtain ⟨X, hX⟩ : ∃ x, S + 1 = x := ⟨_, rfl⟩
  rw [hX] at HO HsW ⊢
  have HX := Lib.hid hX
  clear hX
  obtain ⟨L, hLe⟩ : ∃ L : Nat → List Int, (fun c => ints (el (C + 1) (wide C r bb c))) = L := ⟨_, rfl⟩
  have HLe := Lib.hid hLe
  clear hLe
  go_loopw [7] (fun j wr => ∃ (k : Nat) (v : Value) (vs : List Value), k ≤ K ∧ j = .int .i64 (k : Int) ∧ Out W wr X ((C : Int) + 1) k L v vs) (fun j _ => K - (intOf j).toNat)
  case atStart => exact ⟨0, _, [], by omega, by first | trivial | rfl, HO.out, Rws.nil _ _ _, Below.refl _ _⟩
  case round =>
    obtain ⟨U, hU⟩ : ∃ U, U = wr := ⟨_, rfl⟩
    subst hU
    obtain ⟨k, v, vs, hk, rfl, ho⟩ := hrel
    have hxs := HX.out
    have hob := ho.bel
    have hAo := HA.out.below hob (by omega)
    have c0 := hAo.cell 0
    have c1 := hAo.cell 1
    have HOu := Lib.hid ho
    have HAo := Lib.hid hAo
    have hbU : Below w.heap.size w U := by rw [HSw.out]; exact hbW.out.trans (hob.mono (by omega))
    have HBU := Lib.hid hbU
    by_cases hlt : k < K
    · have hk1 : (k : Int) < (K : Int) := by omega
      obtain ⟨bM, oM, oc, cpc, rfl, hbM, e1, l1⟩ := (HM.out.below hbU).at_ hlt
      obtain ⟨v1, w1, hrun, hrow, hb1⟩ := app_list (el C (r k)) (by have := el_len C (r k); omega) oc cpc U l1
      have hdec : decide (k ∈ el K bb) = bb.testBit k := by
        rw [Bool.eq_iff_iff, decide_eq_true_iff, el_mem]
        exact ⟨fun h => h.2, fun h => ⟨hlt, h⟩⟩
      have hha := HL.out w1 (hbU.trans (hb1.mono hbU.size)) k
      rw [hdec] at hha
      have hwe := HWe.out k hlt
      have hml := el_len C (r k)
      obtain ⟨q, hq⟩ : ∃ q, bb.testBit k = q := ⟨_, rfl⟩
      rw [hq] at hha hwe
      obtain ⟨lk, hlk⟩ : ∃ l, el C (r k) = l := ⟨_, rfl⟩
      rw [hlk] at hrun hrow hwe hml e1
      obtain ⟨n1, hn1⟩ : ∃ n, lk.length = n := ⟨_, rfl⟩
      rw [hn1] at hrun e1 hml
      have hA1 := HAo.out.below hb1 HAo.out.lt
      have HHa := Lib.hid hha
      have HRow := Lib.hid hrow
      have HB1 := Lib.hid hb1
      have HWk := Lib.hid hwe
      have HLl := Lib.hid (show (ints lk).length ≤ 1000000 by rw [ints_len, hn1]; omega)
      have k0 := hA1.cell 0
      have k1 := fun ob => (hA1.alloc ob).cell 0
      have HA1 := Lib.hid hA1
      have HRun := Lib.hid hrun
      clear hxs ho hob hAo hbU hbM l1 hrow hb1 hdec hha hwe hq hlk hn1 hA1 hrun
      go_wp2_with (at_builtin; refine wl_run _ rfl _ _ 25 rfl _ _ _ _ rfl rfl HRun.out ?_)
      refine HHa.out.mono ?_
      rintro e w' ⟨rfl, rfl⟩
      clear HRun e1
      cases q with
      | true =>
        rw [if_pos rfl] at HWk
        go_wp2_with (first | (at_builtin; refine app_int _ rfl _ _ rfl U.heap.size _ _ rfl (HRow.out.alloc _) _ (C : Int) rfl (World.cell?_alloc_mark _ #[_] 3 (0, 0) 0) HLl.out (by have := HB1.out.size; simp; omega) ?_; intro gg cv2 w2 hr2 hbb2 hgg; have HR2 := Lib.hid hr2; have HBB := Lib.hid ((HB1.out.alloc HB1.out.size _).trans hbb2); clear hr2 hbb2; have HOV := Lib.hid (HOu.out.below HBB.out); have HUX := Lib.hid (HOu.out.rws.new HR2.out); have HRL := Lib.hid ((by rw [← HLe.out]; show Row _ _ _ (ints (el (C + 1) (wide C r bb k))); rw [HWk.out]; rw [ints_snoc]; exact HR2.out.le HOu.out.box.lt) : Row _ (X + 1) _ (L k)); have q3 := HOV.out.box.cell 1; have g3 := HOV.out.box.open_ 1; have q5 := fun ob => (HOV.out.box.alloc ob).cell 1) | (at_builtin; refine wl_app _ rfl _ _ rfl (X + 1) v k vs L _ _ rfl (HOV.out.rws.below (by first | exact Below.refl _ _ | exact (Below.refl _ _).alloc (Nat.le_refl _) _ | exact below_dn 1 (Below.refl _ _) | exact below_dn 1 ((Below.refl _ _).alloc (Nat.le_refl _) _) | exact (below_dn 1 (Below.refl _ _)).alloc (Nat.le_refl _) _)) (HRL.out.below (by first | exact Below.refl _ _ | exact (Below.refl _ _).alloc (Nat.le_refl _) _ | exact below_dn 1 (Below.refl _ _) | exact below_dn 1 ((Below.refl _ _).alloc (Nat.le_refl _) _) | exact (below_dn 1 (Below.refl _ _)).alloc (Nat.le_refl _) _)) HUX.out rfl (news_one _ _ _) (by omega) (by have := HOV.out.box.lt; simp; omega) ?_; intro g cv3 w3 hr3 hb3; have ho3 := HOV.out.app (by first | exact Below.refl _ _ | exact (Below.refl _ _).alloc (Nat.le_refl _) _ | exact below_dn 1 (Below.refl _ _) | exact below_dn 1 ((Below.refl _ _).alloc (Nat.le_refl _) _) | exact (below_dn 1 (Below.refl _ _)).alloc (Nat.le_refl _) _) hr3 hb3; have q4 := ho3.box.cell 1; have g4 := ho3.box.open_ 1))
        have HFi := Lib.hid (Out1.fin (by assumption))
        go_roundw
        case rel => exact ⟨k + 1, _, _, by omega, by go_num, HFi.out⟩
        case measure => simp [intOf]; omega
      | false =>
        rw [if_neg (by simp)] at HWk
        have HR2 := HRow
        have HBB := HB1
        obtain ⟨ov, cv, rfl, _⟩ := HRow.out.shape' rfl
        have HOV := Lib.hid (HOu.out.below HBB.out)
        have HUX := Lib.hid (HOu.out.rws.new HR2.out)
        have HRL := Lib.hid ((by rw [← HLe.out]; show Row _ _ _ (ints (el (C + 1) (wide C r bb k))); rw [HWk.out]; exact HR2.out.le HOu.out.box.lt) : Row _ (X + 1) _ (L k))
        have q3 := HOV.out.box.cell 1
        have g3 := HOV.out.box.open_ 1
        have q5 := fun ob => (HOV.out.box.alloc ob).cell 1
        go_wp2_with ((at_builtin; refine wl_app _ rfl _ _ rfl (X + 1) v k vs L _ _ rfl (HOV.out.rws.below (by first | exact Below.refl _ _ | exact (Below.refl _ _).alloc (Nat.le_refl _) _ | exact below_dn 1 (Below.refl _ _) | exact below_dn 1 ((Below.refl _ _).alloc (Nat.le_refl _) _) | exact (below_dn 1 (Below.refl _ _)).alloc (Nat.le_refl _) _)) (HRL.out.below (by first | exact Below.refl _ _ | exact (Below.refl _ _).alloc (Nat.le_refl _) _ | exact below_dn 1 (Below.refl _ _) | exact below_dn 1 ((Below.refl _ _).alloc (Nat.le_refl _) _) | exact (below_dn 1 (Below.refl _ _)).alloc (Nat.le_refl _) _)) HUX.out rfl (news_one _ _ _) (by omega) (by have := HOV.out.box.lt; simp; omega) ?_; intro g cv3 w3 hr3 hb3; have ho3 := HOV.out.app (by first | exact Below.refl _ _ | exact (Below.refl _ _).alloc (Nat.le_refl _) _ | exact below_dn 1 (Below.refl _ _) | exact below_dn 1 ((Below.refl _ _).alloc (Nat.le_refl _) _) | exact (below_dn 1 (Below.refl _ _)).alloc (Nat.le_refl _) _) hr3 hb3; have q4 := ho3.box.cell 1; have g4 := ho3.box.open_ 1))
        have HFi := Lib.hid (Out1.fin (by assumption))
        go_roundw
        case rel => exact ⟨k + 1, _, _, by omega, by go_num, HFi.out⟩
        case measure => simp [intOf]; omega
    · have e : K = k := by omega
      subst e
      have c4 := ho.box.cell 0
      obtain ⟨ov, cv, rfl, _⟩ := ho.rws.ls
      have c5 := ho.box.cell 1
      have hmn : Mn (X + 1) U ov K cv (C + 1) (wide C r bb) := ⟨vs, by
        have h := ho.rws
        rw [← HLe.out] at h
        exact h⟩
      have HRc := Lib.hid (HRd.out ov cv U hmn.mx)
      have HSX := Lib.hid (show S < U.heap.size from HAo.out.lt)
      clear hlt hxs ho hob hAo hmn hbU
      go_wp2_with fail
      refine HRc.out.mono ?_
      rintro e W1 ⟨o2, c2, rfl, hmx, hb1⟩
      have HB1 := Lib.hid (HBU.out.trans (Joins.below_le hb1 HBU.out.size))
      have ha1 := HAo.out.below hb1 HAo.out.lt
      have k0 := fun ob => (ha1.alloc ob).cell 0
      have HA1 := Lib.hid ha1
      have HMx := Lib.hid hmx.mx
      clear hmx hb1 ha1 c4 c5 c0 c1 HRc HO HOu hbW
      go_wp2_with fail
      have hx2 := Box.new W1 #[.int .i64 ((C : Int) + 1), .slice o2 T.length c2] 24
      have hba := HA1.out.alloc (.cells #[.int .i64 ((C : Int) + 1), .slice o2 T.length c2] 24)
      have hbw := HB1.out.alloc HB1.out.size (.cells #[.int .i64 ((C : Int) + 1), .slice o2 T.length c2] 24)
      have hmm := HMx.out.below ((Below.refl _ _).alloc (Nat.le_refl _) (.cells #[.int .i64 ((C : Int) + 1), .slice o2 T.length c2] 24))
      obtain ⟨W2, hW2⟩ : ∃ W2, W1.alloc (.cells #[.int .i64 ((C : Int) + 1), .slice o2 T.length c2] 24) = W2 := ⟨_, rfl⟩
      obtain ⟨Y, hY⟩ : ∃ Y, W1.heap.size = Y := ⟨_, rfl⟩
      rw [hW2] at hx2 hba hbw hmm ⊢
      rw [hY] at hx2 ⊢
      have hle := leads_any (C + 1) T.length (by omega) (by omega) (fun i => σ (T.getD i 0)) (fun i hi => (el_first (HCn.out.ld (HCn.out.getD_mem hi)) (HCn.out.lt _ (HCn.out.getD_mem hi))).2) C (by omega) ((C : Int) + 1) o2 c2 W2 hmm
      rw [ldc_can HCn.out] at hle
      unfold mv at hle
      have HLe2 := Lib.hid hle
      have HX2 := Lib.hid hx2
      have HA2 := Lib.hid hba
      have HB2 := Lib.hid hbw
      have HM2 := Lib.hid hmm
      clear hW2 hY hx2 hba hbw hmm hle k0 HA1 HB1 HMx
      by_cases hm : C ∈ T
      · rw [decide_eq_true hm] at HLe2
        have HMm := Lib.hid hm
        clear hm
        refine HLe2.out.mono ?_
        rintro e w' ⟨rfl, hb⟩
        have HF := Lib.hid (HB2.out.trans (hb.mono HB2.out.size))
        clear hb
        go_wp2_with fail
        exact bodyPost_ret (v := .tuple #[.slice none 0 0, .bool false]) (by simp [results, Tryd.results61, go_sem]) rfl ⟨HF.out, .inl ⟨HMm.out, rfl⟩⟩
      · rw [decide_eq_false hm] at HLe2
        have HMm := Lib.hid hm
        clear hm
        refine HLe2.out.mono ?_
        rintro e W3 ⟨rfl, hb⟩
        have HB3 := Lib.hid (HB2.out.trans (hb.mono HB2.out.size))
        have HX3 := Lib.hid (HX2.out.below hb HX2.out.lt)
        have HA3 := Lib.hid (HA2.out.below hb HA2.out.lt)
        have HM3 := Lib.hid (HM2.out.below hb)
        clear hb HB2 HX2 HA2 HM2 HLe2
        go_wp2_with fail
        go_loopw [10, 11] (fun u j wr => ∃ i : Nat, i ≤ T.length ∧ j = .int .i64 (i : Int) ∧ Row wr W3.heap.size u (ints ((T.take i).filter fun c => (σ c).testBit C)) ∧ Below W3.heap.size W3 wr) (fun _ j _ => T.length - (intOf j).toNat)
        case atStart => exact ⟨0, by omega, by first | trivial | rfl, Row.nil _ _, Below.refl _ _⟩
        case round =>
          obtain ⟨i, hi, rfl, hrw, hbe⟩ := hrel
          have hXo := HX3.out.below hbe HX3.out.lt
          have hAo := HA3.out.below hbe HA3.out.lt
          have HRw := Lib.hid hrw
          have HBe := Lib.hid hbe
          have c1 := hXo.cell 1
          by_cases hli : i < T.length
          · have hi1 : (i : Int) < (T.length : Int) := by omega
            have hp := HCn.out.getD_mem hli
            have hpC := HCn.out.lt _ hp
            obtain ⟨hpf, hpl⟩ := el_first (HCn.out.ld hp) hpC
            obtain ⟨bM, oM, oc, cpc, hoo, hbM, e2, l1⟩ := (HM3.out.below hbe).at_ hli
            subst hoo
            have hft := filter_take (fun c => (σ c).testBit C) hli
            obtain ⟨c, hpe⟩ : ∃ c, T.getD i 0 = c := ⟨_, rfl⟩
            simp only [hpe] at hpf hpl hft e2 l1 hpC hp
            have hhas := fun V (hV : Below wr.heap.size wr V) => (has_mem (el (C + 1) (σ c)) (by have := el_len (C + 1) (σ c); omega) C oc cpc V (l1.below hV)).mono (R' := fun e y => e = .returned (.bool ((σ c).testBit C)) ∧ Below V.heap.size V y) (by
              rintro e y ⟨rfl, rfl⟩
              refine ⟨?_, Below.refl _ _⟩
              congr 2
              rw [Bool.eq_iff_iff, decide_eq_true_iff, el_mem]
              exact ⟨fun h => h.2, fun h => ⟨Nat.lt_succ_self _, h⟩⟩)
            obtain ⟨q, hq⟩ : ∃ q, (σ c).testBit C = q := ⟨_, rfl⟩
            simp only [hq] at hhas hft
            obtain ⟨bl, ofs, rfl, hbl, hcc⟩ := l1 hpl
            have e3 := hcc 0 hpl
            unfold lz at e3
            rw [hpf, Nat.add_zero] at e3
            obtain ⟨ni, hni⟩ : ∃ x, (el (C + 1) (σ c)).length = x := ⟨_, rfl⟩
            simp only [hni] at e2 hhas hpl
            have hpl5 : (0 : Int) < (ni : Int) := by omega
            have HHas := Lib.hid hhas
            have HFt := Lib.hid hft
            have HZ : Hid (∀ V, Below wr.heap.size wr V → Below wr.heap.size wr V ∧ V.cell? ⟨Y, 1, none⟩ = some (.slice (some ⟨bM, oM, none⟩) T.length c2) ∧ V.cell? ⟨bM, oM + i, none⟩ = some (.slice (some ⟨bl, ofs, none⟩) ni cpc) ∧ V.cell? ⟨S, 0, none⟩ = some (.int .i64 (C : Int)) ∧ V.cell? ⟨bl, ofs, none⟩ = some (.int .i64 (c : Int))) := Lib.hid fun V hV => ⟨hV, (hXo.below hV hXo.lt).cell 1, (hV.cell (p := ⟨bM, oM + i, none⟩) hbM).trans e2, (hAo.below hV hAo.lt).cell 0, (hV.cell (p := ⟨bl, ofs, none⟩) hbl).trans e3⟩
            obtain ⟨pm, hpm⟩ : ∃ m, (ints ((T.take i).filter fun c => (σ c).testBit C)).length = m := ⟨_, rfl⟩
            obtain ⟨ov, cv, rfl, _⟩ := hrw.shape' hpm
            have HPl := Lib.hid (show (ints ((T.take i).filter fun c => (σ c).testBit C)).length ≤ 1000000 by
              rw [ints_len]
              have h1 := List.length_filter_le (fun c => (σ c).testBit C) (T.take i)
              have h2 := List.length_take_le i T
              omega)
            have HSz := Lib.hid hbe.size
            clear hrw hbe hXo hAo hhas hft hp hpf hpe hq hpm e2 e3 hbM hbl hcc l1 hni hpC
            go_wp2_with fail
            trace_state
            go_cut [64] (fun x wx => x = .bool q ∧ Below wr.heap.size wr wx)
            case first =>
              go_region_held3 (fun V => Below wr.heap.size wr V ∧ V.cell? ⟨Y, 1, none⟩ = some (.slice (some ⟨bM, oM, none⟩) T.length c2) ∧ V.cell? ⟨bM, oM + i, none⟩ = some (.slice (some ⟨bl, ofs, none⟩) ni cpc) ∧ V.cell? ⟨S, 0, none⟩ = some (.int .i64 (C : Int)) ∧ V.cell? ⟨bl, ofs, none⟩ = some (.int .i64 (c : Int))) (first | exact HZ.out _ (below_dn 1 (Below.refl _ _)) | exact HZ.out _ (Below.refl _ _) | exact HZ.out _ (by assumption)) (first | (go_at_call 65; refine (HHas.out _ (by first | assumption | exact And.left (by assumption) | exact Below.refl _ _ | exact below_dn 1 (Below.refl _ _))).mono ?_; rintro e y ⟨rfl, hz⟩; have kk1 : Below wr.heap.size wr y := Below.trans (by first | assumption | exact And.left (by assumption) | exact Below.refl _ _ | exact below_dn 1 (Below.refl _ _)) (Joins.below_le hz (Below.size (by first | assumption | exact And.left (by assumption) | exact Below.refl _ _ | exact below_dn 1 (Below.refl _ _))))))
              all_goals
                go_wp2_with fail
                go_meet
                exact ⟨rfl, by first | assumption | exact below_dn 1 (by assumption)⟩
            case rest =>
              obtain ⟨rfl, hbc⟩ := hcut
              obtain ⟨_, z1, z2, z3, z4⟩ := HZ.out _ hbc
              have HRw2 := Lib.hid (HRw.out.below hbc)
              have HBc := Lib.hid (HBe.out.trans (hbc.mono HBe.out.size))
              have HSz2 := Lib.hid (Nat.le_trans HSz.out hbc.size)
              clear hbc
              cases q with
              | true =>
                go_wp2_with (at_builtin; refine app_int _ rfl _ _ rfl W3.heap.size _ _ rfl (HRw2.out.alloc _) _ (c : Int) rfl (World.cell?_alloc_mark _ #[_] 3 (0, 0) 0) HPl.out (by have := HSz2.out; simp; omega) ?_; intro gg cv2 w2 hr2 hbb2 hgg; have HR2 := Lib.hid hr2; have HBB := Lib.hid ((HBc.out.alloc HSz2.out _).trans hbb2); clear hr2 hbb2)
                go_roundw
                case rel => exact ⟨i + 1, by omega, by go_num, by rw [HFt.out, if_pos (by first | trivial | rfl), ints_snoc]; exact HR2.out, HBB.out⟩
                case measure => simp [intOf]; omega
              | false =>
                go_wp2_with fail
                go_roundw
                case rel => exact ⟨i + 1, by omega, by go_num, by rw [HFt.out, if_neg (by simp)]; exact HRw2.out, HBc.out⟩
                case measure => simp [intOf]; omega
          · have e : T.length = i := by omega
            subst e
            rw [List.take_length] at hrw
            obtain ⟨ov, cv, rfl, hz⟩ := hrw.lz
            have HZ2 := Lib.hid hz
            have HF := Lib.hid (HB3.out.trans (hbe.mono HB3.out.size))
            clear hrw hbe hz hXo hAo hli
            go_wp2_with fail
            exact bodyPost_ret (v := .tuple #[.slice ov (T.filter fun c => (σ c).testBit C).length cv, .bool true]) (by simp [results, Tryd.results61, go_sem]) rfl ⟨HF.out, .inr ⟨HMm.out, ov, cv, rfl, HZ2.out⟩⟩
set_option maxRecDepth 100000 in
set_option maxHeartbeats 2000000 in
theorem rsolve_bad (C : Int) (K : Nat) (o : Option Addr) (cap : Nat) (v : Value) (w : World) (c : Int) (h0 : c ≠ 0) (hck : ∀ W, Below w.heap.size w W → Calls Tryd.prog 19 #[mv C o K cap] W fun e w' => e = .returned (.int .i64 c) ∧ Below W.heap.size W w') :
    Calls Tryd.prog 33 #[mv C o K cap, v] w fun e w' => e = .returned (.tuple #[.slice none 0 0, .bool false, .int .i64 c]) ∧ Below w.heap.size w w' := by
  have H := Lib.hid (hck _ (mbel w C o K cap))
  have HB := Lib.hid (mbel w C o K cap)
  have g1 : (c != 0) = true := by rw [bne_iff_ne]; exact h0
  unfold mv at H ⊢
  clear hck h0
  go_enter Tryd.func33, Tryd.ntmps33
  go_wp2_with fail
  refine H.out.mono ?_
  rintro e W1 ⟨rfl, hb1⟩
  have HB1 := Lib.hid (HB.out.trans (Joins.below_le hb1 HB.out.size))
  clear hb1
  go_wp2_with fail
  exact bodyPost_ret (v := .tuple #[.slice none 0 0, .bool false, .int .i64 c]) (by simp [results, Tryd.results33, go_sem]) rfl ⟨rfl, HB1.out⟩
set_option maxRecDepth 100000 in
set_option maxHeartbeats 2000000 in
theorem rsolve_bad2 (C : Int) (K : Nat) (hK : K ≤ 1000000000) (o : Option Addr) (cap : Nat) (n : Nat) (hn : n ≤ 1000000000) (f : Nat → Int) (p : Option Addr) (cap' : Nat) (w : World) (hL : Lz w p n f) (c : Int) (hc : vcode (K : Int) n f = c) (h0 : c ≠ 0) (hck : ∀ W, Below w.heap.size w W → Calls Tryd.prog 19 #[mv C o K cap] W fun e w' => e = .returned (.int .i64 0) ∧ Below W.heap.size W w') :
    Calls Tryd.prog 33 #[mv C o K cap, .slice p n cap'] w fun e w' => e = .returned (.tuple #[.slice none 0 0, .bool false, .int .i64 c]) ∧ Below w.heap.size w w' := by
  have H := Lib.hid (hck _ (mbel w C o K cap))
  have HB := Lib.hid (mbel w C o K cap)
  have HBx := Lib.hid (mbox w C o K cap)
  have hV := fun W (h : Lz W p n f) => rvec_any (K : Int) n hn f p cap' W h
  rw [hc] at hV
  have HV := Lib.hid hV
  have HL := Lib.hid hL
  have g1 : (c != 0) = true := by rw [bne_iff_ne]; exact h0
  unfold mv at H ⊢
  clear hck h0 hV hL hc
  go_enter Tryd.func33, Tryd.ntmps33
  go_wp2_with fail
  refine H.out.mono ?_
  rintro e W1 ⟨rfl, hb1⟩
  have HB1 := Lib.hid (HB.out.trans (Joins.below_le hb1 HB.out.size))
  have hx1 := HBx.out.below hb1 (by simp)
  have q0 := hx1.cell 0
  have q1 := hx1.cell 1
  clear hb1 hx1
  go_wp2_with fail
  refine (HV.out _ (HL.out.below HB1.out)).mono ?_
  rintro e W2 ⟨rfl, d, hd⟩
  have HB1 := Lib.hid (HB1.out.trans (Joins.below_le (hd ▸ below_dn d (Below.refl _ _) : Below W1.heap.size W1 W2) HB1.out.size))
  clear hd q0 q1
  go_wp2_with fail
  exact bodyPost_ret (v := .tuple #[.slice none 0 0, .bool false, .int .i64 c]) (by simp [results, Tryd.results33, go_sem]) rfl ⟨rfl, HB1.out⟩

/-- What the specification's Solve returns. -/
def RSolve (C : Nat) (T : List Nat) (σ : Nat → Nat) (w : World) (e : Ending) (w' : World) : Prop := Below w.heap.size w w' ∧ ((C ∈ T ∧ e = .returned (.tuple #[.slice none 0 0, .bool false, .int .i64 0])) ∨ (C ∉ T ∧ ∃ xo xc, e = .returned (.tuple #[.slice xo (sol C T σ).length xc, .bool true, .int .i64 0]) ∧ Lz w' xo (sol C T σ).length (lz (sol C T σ))))
set_option maxRecDepth 100000 in
set_option maxHeartbeats 2000000 in
theorem rsolve_good (C K : Nat) (hCK : C + 1 + K ≤ 31) (r : Nat → Nat) (hr : ∀ i, i < K → r i < 2 ^ C) (bb : Nat) (hbb : bb < 2 ^ K) (T : List Nat) (σ : Nat → Nat) (hcan : Can (C + 1) (rows K (wide C r bb)) T σ) (o p : Option Addr) (cap cp : Nat) (w : World) (hM : Mx w o K C r) (hL : Lz w p (el K bb).length (lz (el K bb))) :
    Calls Tryd.prog 33 #[mv (C : Int) o K cap, .slice p (el K bb).length cp] w (RSolve C T σ w) := by
  have hb0 := mbel w (C : Int) o K cap
  have H := Lib.hid (rcheck_mx C K (by omega) (by omega) r o cap _ (hM.below hb0))
  have HB := Lib.hid hb0
  have HBx := Lib.hid (mbox w (C : Int) o K cap)
  have hV1 := fun W (h : Below w.heap.size w W) => rvec_any (K : Int) (el K bb).length (by have := el_len K bb; omega) (lz (el K bb)) p cp W (hL.below h)
  rw [vcode_el] at hV1
  have HV1 := Lib.hid hV1
  have HSo := Lib.hid (fun W (h : Below w.heap.size w W) => solution_ok C K hCK r hr bb hbb T σ hcan o p cap cp W (hM.below h) (hL.below h))
  obtain ⟨n1, hn1⟩ : ∃ n, (el K bb).length = n := ⟨_, rfl⟩
  rw [hn1] at HV1 HSo ⊢
  unfold mv at H HSo ⊢
  clear hV1 hn1 hM hL hb0 hr hcan
  go_enter Tryd.func33, Tryd.ntmps33
  go_wp2_with fail
  refine H.out.mono ?_
  rintro e W1 ⟨rfl, hb1⟩
  have HB1 := Lib.hid (HB.out.trans (Joins.below_le hb1 HB.out.size))
  have hx1 := HBx.out.below hb1 (by simp)
  have q0 := hx1.cell 0
  have q1 := hx1.cell 1
  have HX1 := Lib.hid hx1
  clear hb1 hx1
  go_wp2_with fail
  refine (HV1.out _ HB1.out).mono ?_
  rintro e W2 ⟨rfl, d, hd⟩
  have hb2 : Below W1.heap.size W1 W2 := hd ▸ below_dn d (Below.refl _ _)
  have HB1 := Lib.hid (HB1.out.trans (Joins.below_le hb2 HB1.out.size))
  have hx2 := HX1.out.below hb2 HX1.out.lt
  clear q0 q1 hd hb2
  have q0 := hx2.cell 0
  have q1 := hx2.cell 1
  clear hx2
  go_wp2_with fail
  refine (HSo.out _ HB1.out).mono ?_
  rintro e W3 ⟨hb3, (⟨hm, rfl⟩ | ⟨hm, xo, xc, rfl, hz⟩)⟩
  · have HF := Lib.hid (HB1.out.trans (Joins.below_le hb3 HB1.out.size))
    have HMm := Lib.hid hm
    clear hb3 hm q0 q1
    go_wp2_with fail
    exact bodyPost_ret (v := .tuple #[.slice none 0 0, .bool false, .int .i64 0]) (by simp [results, Tryd.results33, go_sem]) rfl ⟨HF.out, .inl ⟨HMm.out, rfl⟩⟩
  · have HF := Lib.hid (HB1.out.trans (Joins.below_le hb3 HB1.out.size))
    have HMm := Lib.hid hm
    have HZ := Lib.hid hz
    clear hb3 hm hz q0 q1
    go_wp2_with fail
    exact bodyPost_ret (v := .tuple #[.slice xo (sol C T σ).length xc, .bool true, .int .i64 0]) (by simp [results, Tryd.results33, go_sem]) rfl ⟨HF.out, .inr ⟨HMm.out, xo, xc, rfl, HZ.out⟩⟩

end Go.Proofs.YtbefkngeffpokaaDoor
