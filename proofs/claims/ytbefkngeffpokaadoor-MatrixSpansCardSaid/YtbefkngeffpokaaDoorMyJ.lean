/- The kernel: the specification's Null and Kernel. -/
import Derived.Test.YtbefkngeffpokaaDoorMxV
import Derived.Test.YtbefkngeffpokaaDoorMxZ
import Derived.Test.YtbefkngeffpokaaDoorMyH
import Derived.WalkKit
import Derived.WalkSpells
import Derived.WalkLawsBesides
import Derived.Handy
import Derived.Deep.QuietTactic
import Derived.BigQuiet
import Derived.Outline
import Derived.Laws.BitsAllLaws
import Derived.IntWalk
import Derived.Lib.SmallJoins
import Derived.Lib.Hide
import Derived.Deep.DeepCutAuto
import Derived.LoopTactic
import Derived.Deep.RegionWith
import Derived.Laws.CopyOwn
import Derived.Maps.OwnOps
import Derived.Maps.OwnSet
import Derived.Laws.OwnMore
import Derived.Maps.AppendAt
import Derived.RangeFuncNested
import Derived.RangeFuncBound
import Derived.RangeFuncCalls
import Derived.RangeFuncLeaves
import Derived.RangeFuncBox
import Derived.RangeFuncFrom
import Derived.Shelf.Abstract
import Derived.Shelf.RegionOpen
import Derived.OwnWalkIn
import Derived.TacticsInMore
import Derived.LoopNIn
import Derived.LoopIn
import Derived.Deep.RegionHeld3
import Derived.RegionTactic
import Derived.ChangeAlike
namespace Go.Proofs.YtbefkngeffpokaaDoor
set_option linter.unusedVariables false
set_option linter.unusedSimpArgs false
open Go.RowKit


theorem lz_one (p : Nat) (W : World) : Lz (W.alloc (.cells #[.int .i64 (p : Int)] 3)) (some ⟨W.heap.size, 0, none⟩) [p].length (lz [p]) := (lz_lit [(p : Int)] W 3).congr fun i hi => by
  have : i = 0 := by simp at hi; omega
  subst this; rfl
theorem el_first {C x p : Nat} (h : Ld x p) (hp : p < C) : (el C x).getD 0 0 = p ∧ 0 < (el C x).length := by
  have hm : p ∈ el C x := el_mem.2 ⟨hp, h.at_⟩
  have hpos : 0 < (el C x).length := List.length_pos_of_mem hm
  refine ⟨?_, hpos⟩
  rw [List.getD_eq_getElem?_getD, List.getElem?_eq_getElem hpos]
  obtain ⟨j, hj, e⟩ := List.mem_iff_getElem.1 hm
  show (el C x)[0] = p
  have h0 := (el_mem.1 (List.getElem_mem hpos)).2
  have h1 : p ≤ (el C x)[0] := by
    rcases Nat.lt_or_ge (el C x)[0] p with g | g
    · have := h.low _ g; rw [h0] at this; cases this
    · exact g
  by_cases g : j = 0
  · subst g; exact e
  · have := List.pairwise_iff_getElem.1 (el_asc C x) 0 j hpos hj (by omega)
    omega
theorem nl_succ (c : Nat) (T : List Nat) : nl (c + 1) T = if c ∈ T then nl c T else nl c T ++ [c] := by
  unfold nl
  rw [List.range_succ, List.filter_append]
  by_cases h : c ∈ T
  · rw [if_pos h, List.filter_cons_of_neg (by simpa using h)]; simp
  · rw [if_neg h, List.filter_cons_of_pos (by simpa using h)]; simp
theorem nl_pre (T : List Nat) (c : Nat) : ∀ d, ∃ l, nl (c + d) T = nl c T ++ l
  | 0 => ⟨[], by simp⟩
  | d + 1 => by
    obtain ⟨l, hl⟩ := nl_pre T c d
    show ∃ l, nl (c + d + 1) T = _
    rw [nl_succ]
    by_cases h : c + d ∈ T
    · rw [if_pos h]; exact ⟨l, hl⟩
    · rw [if_neg h]; exact ⟨l ++ [c + d], by rw [hl, List.append_assoc]⟩
theorem nl_at {T : List Nat} {c C : Nat} (hc : c < C) (hn : c ∉ T) : (nl C T).getD (nl c T).length 0 = c ∧ (nl c T).length < (nl C T).length := by
  obtain ⟨l, hl⟩ := nl_pre T (c + 1) (C - (c + 1))
  have e : c + 1 + (C - (c + 1)) = C := by omega
  rw [e, nl_succ, if_neg hn] at hl
  rw [hl]
  constructor
  · rw [List.getD_eq_getElem?_getD, List.append_assoc, List.getElem?_append_right (Nat.le_refl _), Nat.sub_self]; rfl
  · simp
theorem nl_len_le (T : List Nat) (c : Nat) : (nl c T).length ≤ c := by
  unfold nl
  exact Nat.le_trans (List.length_filter_le _ _) (by simp)
/-- The row of the kernel under way. -/
def krx (T : List Nat) (τ : Nat → Nat) (c i : Nat) : Nat := flips (2 ^ c) ((T.take i).filter fun p => (τ p).testBit c)
theorem krx_zero (T : List Nat) (τ : Nat → Nat) (c : Nat) : krx T τ c 0 = 2 ^ c := rfl
theorem krx_step {T : List Nat} (τ : Nat → Nat) (c : Nat) {i : Nat} (hi : i < T.length) : krx T τ c (i + 1) = if (τ (T.getD i 0)).testBit c then krx T τ c i ^^^ 2 ^ (T.getD i 0) else krx T τ c i := by
  unfold krx
  rw [take_snoc hi, List.filter_append]
  by_cases h : (τ (T.getD i 0)).testBit c = true
  · rw [if_pos h, List.filter_cons_of_pos (p := fun p => (τ p).testBit c) h, List.filter_nil, flips_snoc]
  · rw [if_neg h, List.filter_cons_of_neg (p := fun p => (τ p).testBit c) h, List.filter_nil, List.append_nil]
theorem krx_end {C : Nat} {M T : List Nat} {τ : Nat → Nat} (h : Can C M T τ) {c : Nat} (hn : c ∉ T) : krx T τ c T.length = kr T τ c := by
  unfold krx
  rw [List.take_length]
  apply Nat.eq_of_testBit_eq
  intro q
  rw [flips_bit _ _ _ (h.nd.filter _), kr_bit h hn, Nat.testBit_two_pow]
  have e : decide (q ∈ T.filter fun p => (τ p).testBit c) = decide (q ∈ T ∧ (τ q).testBit c = true) := decide_eq_decide.2 List.mem_filter
  rw [e]
  by_cases g : c = q
  · subst g
    have : ¬ (c ∈ T ∧ (τ c).testBit c = true) := fun g => hn g.1
    rw [decide_eq_false this]
    simp
  · rw [decide_eq_false g, decide_eq_false (fun e => g (Eq.symm e)), Bool.false_xor, Bool.or_false]
theorem el_one {C p : Nat} (hp : p < C) : el C (2 ^ p) = [p] := by
  refine asc_ext (el_asc _ _) (by simp) fun i => ?_
  rw [el_mem, Nat.testBit_two_pow, decide_eq_true_iff, List.mem_singleton]
  exact ⟨fun h => h.2.symm, fun h => by subst h; exact ⟨hp, rfl⟩⟩
theorem ldc_can {C : Nat} {M T : List Nat} {τ : Nat → Nat} (h : Can C M T τ) (c : Nat) : ldc C (fun i => τ (T.getD i 0)) T.length c = decide (c ∈ T) := by
  unfold ldc
  refine decide_eq_decide.2 ⟨fun ⟨i, hi, e⟩ => ?_, fun hc => ?_⟩
  · rw [(el_first (h.ld (h.getD_mem hi)) (h.lt _ (h.getD_mem hi))).1] at e
    rw [← e]; exact h.getD_mem hi
  · obtain ⟨i, hi, rfl⟩ := List.mem_iff_getElem.1 hc
    refine ⟨i, hi, ?_⟩
    have e : T.getD i 0 = T[i] := by rw [List.getD_eq_getElem?_getD, List.getElem?_eq_getElem hi]; rfl
    show (el C (τ (T.getD i 0))).getD 0 0 = T[i]
    rw [e]
    exact (el_first (h.ld hc) (h.lt _ hc)).1
set_option maxRecDepth 100000 in
set_option maxHeartbeats 8000000 in
theorem null_ok (C K : Nat) (hC : C ≤ 31) (hK : K ≤ 31) (r : Nat → Nat) (hr : ∀ i, i < K → r i < 2 ^ C) (T : List Nat) (τ : Nat → Nat) (hcan : Can C (rows K r) T τ) (o : Option Addr) (cap : Nat) (w : World) (hM : Mx w o K C r) :
    Calls Tryd.prog 60 #[mv (C : Int) o K cap] w fun e w' => ∃ o' cap', e = .returned (mv (C : Int) o' (nl C T).length cap') ∧ Mn w.heap.size w' o' (nl C T).length cap' C (fun i => kr T τ ((nl C T).getD i 0)) ∧ Below w.heap.size w w' := by
  obtain ⟨f1, f2, f3⟩ := w2_facts w (C : Int) o K cap
  have hTl := hcan.len_leC
  obtain ⟨S, hS⟩ : ∃ n, w.heap.size = n := ⟨_, rfl⟩
  have HT := Lib.hid (fun W (h : Below w.heap.size w W) => reduced_ok C K hC hK r hr T τ hcan o cap W w.heap.size h.size (hM.gs h))
  have HB := Lib.hid f1
  have HA := Lib.hid f2
  have HR := Lib.hid f3
  have HCn := Lib.hid hcan
  unfold mv at HT ⊢
  clear hM f1 f2 f3 hr hcan
  go_enter Tryd.func60, Tryd.ntmps60
  go_wp2_with fail
  refine (HT.out _ HB.out).mono ?_
  rintro e W1 ⟨o2, c2, rfl, hmx, hb1⟩
  have hr1 := HR.out.below hb1 HR.out.lt
  have ha1 := HA.out.below hb1 HA.out.lt
  rw [hS] at hr1 ha1
  have q0 := ha1.cell 0
  have q1 := ha1.cell 1
  have HB1 := Lib.hid (HB.out.trans (Joins.below_le hb1 HB.out.size))
  have HR1 := Lib.hid hr1
  have HA1 := Lib.hid ha1
  have HMx := Lib.hid hmx.mx
  have HSl := Lib.hid (show S + 1 < W1.heap.size from HR1.out.lt)
  have q3 : ∀ ob, (W1.alloc ob).cell? ⟨S, 0, none⟩ = some (.int .i64 (C : Int)) := fun ob => (ha1.alloc ob).cell 0
  clear hb1 hr1 ha1 hmx HT
  go_wp2_with fail
  have hx1 := (Box.new W1 #[.int .i64 (C : Int), .slice o2 T.length c2] 24).alloc (.cells #[.int .i64 (C : Int), .slice none 0 0] 24)
  have hx2 := Box.new (W1.alloc (.cells #[.int .i64 (C : Int), .slice o2 T.length c2] 24)) #[.int .i64 (C : Int), .slice none 0 0] 24
  rw [World.size_alloc] at hx2
  have hba := (HA1.out.alloc (.cells #[.int .i64 (C : Int), .slice o2 T.length c2] 24)).alloc (.cells #[.int .i64 (C : Int), .slice none 0 0] 24)
  have hbr := (HR1.out.alloc (.cells #[.int .i64 (C : Int), .slice o2 T.length c2] 24)).alloc (.cells #[.int .i64 (C : Int), .slice none 0 0] 24)
  have hbw := (HB1.out.alloc HB1.out.size (.cells #[.int .i64 (C : Int), .slice o2 T.length c2] 24)).alloc (by have := HB1.out.size; simp; omega) (.cells #[.int .i64 (C : Int), .slice none 0 0] 24)
  have hbm := (((Below.refl W1.heap.size W1).alloc (Nat.le_refl _) (.cells #[.int .i64 (C : Int), .slice o2 T.length c2] 24)).alloc (by simp) (.cells #[.int .i64 (C : Int), .slice none 0 0] 24))
  obtain ⟨W, hW⟩ : ∃ W, (W1.alloc (.cells #[.int .i64 (C : Int), .slice o2 T.length c2] 24)).alloc (.cells #[.int .i64 (C : Int), .slice none 0 0] 24) = W := ⟨_, rfl⟩
  obtain ⟨Y, hY⟩ : ∃ Y, W1.heap.size = Y := ⟨_, rfl⟩
  rw [hW] at hx1 hx2 hba hbr hbw hbm ⊢
  rw [hY] at hx1 hx2 HSl ⊢
  have HY := Lib.hid hY
  have HX1 := Lib.hid hx1
  have HO := Lib.hid hx2
  have HA := Lib.hid hba
  have HR := Lib.hid hbr
  have HBW := Lib.hid hbw
  have HM := Lib.hid hbm
  have HSw := Lib.hid hS
  clear hW hY hx1 hx2 hba hbr hbw hbm q0 q1 q3 hS HA1 HR1 HB1
  obtain ⟨L, hL⟩ : ∃ L : Nat → List Int, (fun i => ints (el C (kr T τ ((nl C T).getD i 0)))) = L := ⟨_, rfl⟩
  have HL := Lib.hid hL
  clear hL
  go_loopw [5] (fun j wr => ∃ (c : Nat) (v : Value) (vs : List Value), c ≤ C ∧ j = .int .i64 (c : Int) ∧ Out W wr (Y + 1) (C : Int) (nl c T).length L v vs) (fun j _ => C - (intOf j).toNat)
  case atStart => exact ⟨0, _, [], by omega, by first | trivial | rfl, HO.out, Rws.nil _ _ _, Below.refl _ _⟩
  case round =>
    obtain ⟨U, hU⟩ : ∃ U, U = wr := ⟨_, rfl⟩
    subst hU
    obtain ⟨c, v, vs, hc, rfl, ho⟩ := hrel
    have hxs := HSl.out
    have hob := ho.bel
    have hAo := HA.out.below hob (by omega)
    have hXo := HX1.out.below hob (by omega)
    have c0 := hAo.cell 0
    have c1 := hXo.cell 0
    have c2' := hXo.cell 1
    have HOu := Lib.hid ho
    have hmU : Mx U o2 T.length C (fun i => τ (T.getD i 0)) := HMx.out.below (HM.out.trans (hob.mono (by rw [HY.out]; omega)))
    by_cases hlt : c < C
    · have hc1 : (c : Int) < (C : Int) := by omega
      have hle := leads_any C T.length (by omega) (by omega) (fun i => τ (T.getD i 0)) (fun i hi => (el_first (HCn.out.ld (HCn.out.getD_mem hi)) (HCn.out.lt _ (HCn.out.getD_mem hi))).2) c (by omega) (C : Int) o2 c2 U hmU
      rw [ldc_can HCn.out] at hle
      unfold mv at hle
      have HMU := Lib.hid (fun V (hV : Below U.heap.size U V) => hmU.below hV)
      by_cases hmem : c ∈ T
      · rw [decide_eq_true hmem] at hle
        have HLe := Lib.hid hle
        have hnl := nl_succ c T
        rw [if_pos hmem] at hnl
        have HNl := Lib.hid hnl
        clear hle hmU hAo hXo hob ho hnl
        go_wp2_with fail
        refine HLe.out.mono ?_
        rintro e U2 ⟨rfl, hb2⟩
        have HO2 := Lib.hid (HOu.out.below hb2)
        clear hb2
        go_wp2_with fail
        go_roundw
        case rel => exact ⟨c + 1, v, vs, by omega, by go_num, by rw [HNl.out]; exact HO2.out⟩
        case measure => simp [intOf]; omega
      · rw [decide_eq_false hmem] at hle
        have HLe := Lib.hid hle
        have hnl := nl_succ c T
        rw [if_neg hmem] at hnl
        have HNl := Lib.hid hnl
        obtain ⟨hna, hnb⟩ := nl_at hlt hmem
        have HNa := Lib.hid hna
        have HNb := Lib.hid hnb
        have HKe := Lib.hid (krx_end HCn.out hmem)
        have HXo := Lib.hid hXo
        have HAo := Lib.hid hAo
        clear hle hmU hAo hXo hob ho hnl hna hnb
        go_wp2_with fail
        refine HLe.out.mono ?_
        rintro e U2 ⟨rfl, hb2⟩
        have HO2 := Lib.hid (HOu.out.below hb2)
        have HX2 := Lib.hid (HXo.out.below hb2 HXo.out.lt)
        have HA2 := Lib.hid (HAo.out.below hb2 HAo.out.lt)
        have HMU2 := Lib.hid (fun V (hV : Below U2.heap.size U2 V) => HMU.out V (Joins.below_le hb2 (Nat.le_refl _) |>.trans (hV.mono hb2.size)))
        clear hb2
        go_wp2_with fail
        have hrow0 : Row (U2.alloc (.cells #[.int .i64 (c : Int)] 3)) U2.heap.size (.slice (some ⟨U2.heap.size, 0, none⟩) 1 1) (ints (el C (krx T τ c 0))) := by
          rw [krx_zero, el_one hlt]
          exact World.ownsRow_lit U2 #[.int .i64 (c : Int)] 1 (Nat.le_refl _) (by decide) rfl
        have hb3 : Below U2.heap.size U2 (U2.alloc (.cells #[.int .i64 (c : Int)] 3)) := (Below.refl _ _).alloc (Nat.le_refl _) _
        have HRow0 := Lib.hid hrow0
        have HB3 := Lib.hid hb3
        clear hrow0 hb3 c0 c1 c2'
        have hC3 := hC
        go_loopw [6, 7] (fun v j wl => ∃ i : Nat, i ≤ T.length ∧ j = .int .i64 (i : Int) ∧ Row wl U2.heap.size v (ints (el C (krx T τ c i))) ∧ Below U2.heap.size U2 wl) (fun _ j _ => T.length - (intOf j).toNat)
        case atStart => exact ⟨0, by omega, by first | trivial | rfl, HRow0.out, HB3.out⟩
        case round =>
          clear HRow0 HB3
          obtain ⟨i, hi, rfl, hrw, hbe⟩ := hrel
          have hXl := HX2.out.below hbe HX2.out.lt
          have c1 := hXl.cell 0
          have c2' := hXl.cell 1
          have HRw := Lib.hid hrw
          have HBe := Lib.hid hbe
          by_cases hli : i < T.length
          · have hi1 : (i : Int) < (T.length : Int) := by omega
            have hp := HCn.out.getD_mem hli
            have hpC := HCn.out.lt _ hp
            obtain ⟨hpf, hpl⟩ := el_first (HCn.out.ld hp) hpC
            have hst := krx_step τ c hli
            obtain ⟨bM, oM, oc, cpc, hoo, hbM, e2, l1⟩ := (HMU2.out _ hbe).at_ hli
            subst hoo
            have hha := has_mem (el C (τ (T.getD i 0))) (by have := el_len C (τ (T.getD i 0)); omega) c oc cpc wr l1
            have hdec : decide (c ∈ el C (τ (T.getD i 0))) = (τ (T.getD i 0)).testBit c := by
              rw [Bool.eq_iff_iff, decide_eq_true_iff, el_mem]
              exact ⟨fun h => h.2, fun h => ⟨hlt, h⟩⟩
            rw [hdec] at hha
            obtain ⟨p, hpe⟩ : ∃ p, T.getD i 0 = p := ⟨_, rfl⟩
            simp only [hpe] at hpf hpl hst hha e2 l1 hpC hp
            obtain ⟨bl, ofs, rfl, hbl, hcc⟩ := l1 hpl
            have e3 := hcc 0 hpl
            unfold lz at e3
            rw [hpf, Nat.add_zero] at e3
            obtain ⟨q, hq⟩ : ∃ q, (τ p).testBit c = q := ⟨_, rfl⟩
            rw [hq] at hha hst
            obtain ⟨ov, cv, rfl, lv⟩ := hrw.lz
            have hp1 : (p : Int) < (C : Int) := by omega
            have hpl2 := plus_ok (el C (krx T τ c i)) [p] (by have := el_len C (krx T τ c i); simp; omega) ov (some ⟨wr.heap.size, 0, none⟩) cv 1 (wr.alloc (.cells #[.int .i64 (p : Int)] 3)) (lv.more _) (lz_one p wr)
            have e5 : plus (el C (krx T τ c i)) [p] = el C (krx T τ c i ^^^ 2 ^ p) := by rw [← el_one hpC, plus_el]
            rw [e5] at hpl2
            obtain ⟨ni, hni⟩ : ∃ x, (el C (τ p)).length = x := ⟨_, rfl⟩
            rw [hni] at e2 hha hpl
            have hpl5 : (0 : Int) < (ni : Int) := by omega
            obtain ⟨nv, hnv⟩ : ∃ x, (el C (krx T τ c i)).length = x := ⟨_, rfl⟩
            rw [hnv] at hpl2 HRw ⊢
            have HPl := Lib.hid hpl2
            have HHa := Lib.hid hha
            have HSt := Lib.hid hst
            clear hrw hbe hXl l1 hcc hst hha hdec hpf hpe hp hpl2 lv hni hnv hq e5
            cases q with
            | true =>
              go_wp2_with fail
              refine HHa.out.mono ?_
              rintro e w' ⟨rfl, rfl⟩
              go_wp2_with fail
              refine HPl.out.mono ?_
              rintro e w4 ⟨v4, rfl, hr4, hb4⟩
              have hbal : Below wr.heap.size wr (wr.alloc (.cells #[.int .i64 (p : Int)] 3)) := (Below.refl _ _).alloc (Nat.le_refl _) _
              have HR4 := Lib.hid (hr4.le (Nat.le_trans HBe.out.size hbal.size))
              have HB4 := Lib.hid (HBe.out.trans ((hbal.trans (hb4.mono hbal.size)).mono HBe.out.size))
              clear hr4 hb4 hbal
              go_wp2_with fail
              go_roundw
              case rel => exact ⟨i + 1, by omega, by go_num, by rw [HSt.out, if_pos (by first | trivial | rfl)]; exact HR4.out, HB4.out⟩
              case measure => simp [intOf]; omega
            | false =>
              go_wp2_with fail
              refine HHa.out.mono ?_
              rintro e w' ⟨rfl, rfl⟩
              go_wp2_with fail
              go_roundw
              case rel => exact ⟨i + 1, by omega, by go_num, by rw [HSt.out, if_neg (by simp)]; exact HRw.out, HBe.out⟩
              case measure => simp [intOf]; omega
          · have e : T.length = i := by omega
            subst e
            rw [HKe.out] at hrw
            have hOV := HO2.out.below hbe
            have q3 := hOV.box.cell 1
            have g3 := hOV.box.open_ 1
            have q5 : ∀ ob, (wr.alloc ob).cell? ⟨Y + 1, 1, none⟩ = some v := fun ob => (hOV.box.alloc ob).cell 1
            have q6 : ∀ ob, (wr.drew.alloc ob).cell? ⟨Y + 1, 1, none⟩ = some v := fun ob => (((hOV.drew 1).box).alloc ob).cell 1
            obtain ⟨pm, hpm⟩ : ∃ m, (ints (el C (kr T τ c))).length = m := ⟨_, rfl⟩
            obtain ⟨ov, cv, rfl, _⟩ := hrw.shape' hpm
            have hux := HO2.out.rws.new hrw
            have hrL : Row wr (Y + 1 + 1) (.slice ov pm cv) (L (nl c T).length) := by
              rw [← HL.out]
              show Row wr (Y + 1 + 1) (.slice ov pm cv) (ints (el C (kr T τ ((nl C T).getD (nl c T).length 0))))
              rw [HNa.out]
              exact hrw.le HO2.out.box.lt
            have hsz : Y + 1 + 1 ≤ wr.heap.size := hOV.box.lt
            have hou := hOV
            have hnk := nl_len_le T c
            obtain ⟨k, hk⟩ : ∃ k, (nl c T).length = k := ⟨_, rfl⟩
            rw [hk] at hou hrL hnk
            have HKk := Lib.hid hk
            clear hrw hbe hli hpm hOV hXl hk
            go_wp2_with (at_builtin; refine wl_app _ rfl _ _ rfl (Y + 1 + 1) v k vs L (.slice ov pm cv) _ rfl (hou.rws.below (by first | exact Below.refl _ _ | exact (Below.refl _ _).alloc (Nat.le_refl _) _ | exact below_dn 1 (Below.refl _ _) | exact below_dn 1 ((Below.refl _ _).alloc (Nat.le_refl _) _) | exact (below_dn 1 (Below.refl _ _)).alloc (Nat.le_refl _) _)) (hrL.below (by first | exact Below.refl _ _ | exact (Below.refl _ _).alloc (Nat.le_refl _) _ | exact below_dn 1 (Below.refl _ _) | exact below_dn 1 ((Below.refl _ _).alloc (Nat.le_refl _) _) | exact (below_dn 1 (Below.refl _ _)).alloc (Nat.le_refl _) _)) hux rfl (news_one _ _ _) (by omega) (by simp; omega) ?_; intro g cv2 w1 hr1 hb1; have ho1 := hou.app (by first | exact Below.refl _ _ | exact (Below.refl _ _).alloc (Nat.le_refl _) _ | exact below_dn 1 (Below.refl _ _) | exact below_dn 1 ((Below.refl _ _).alloc (Nat.le_refl _) _) | exact (below_dn 1 (Below.refl _ _)).alloc (Nat.le_refl _) _) hr1 hb1; have q4 := ho1.box.cell 1; have g4 := ho1.box.open_ 1)
            have HFi := Lib.hid (Out1.fin ho1)
            clear hou hrL ho1
            go_roundw
            case rel => exact ⟨c + 1, _, _, by omega, by go_num, by rw [HNl.out, List.length_append, HKk.out]; exact HFi.out⟩
            case measure => simp [intOf]; omega
    · have e : C = c := by omega
      subst e
      have hRr := HR.out.below hob (by omega)
      have d0 := hRr.cell 0
      have d1 := hRr.cell 1
      have f0 := hRr.open_ 0
      have f1 := hRr.open_ 1
      have c4 := ho.box.cell 0
      obtain ⟨ov, cv, rfl, _⟩ := ho.rws.ls
      have c5 := ho.box.cell 1
      have hfb := (hRr.set 0 (.int .i64 (C : Int))).set 1 (.slice ov (nl C T).length cv)
      have hfr := ((ho.rws.set (b := S + 1) (i := 0) (by omega) (.int .i64 (C : Int))).set (b := S + 1) (i := 1) (by omega) (.slice ov (nl C T).length cv))
      have hfw := (((HBW.out.trans (hob.mono (by have := HSw.out; omega))).setCell (p := ⟨S + 1, 0, none⟩) (by show w.heap.size ≤ S + 1; have := HSw.out; omega) (.int .i64 (C : Int))).setCell (p := ⟨S + 1, 1, none⟩) (by show w.heap.size ≤ S + 1; have := HSw.out; omega) (.slice ov (nl C T).length cv))
      have HFB := Lib.hid hfb
      rw [← HL.out] at hfr
      have hmx : Mn w.heap.size _ ov (nl C T).length cv C (fun i => kr T τ ((nl C T).getD i 0)) := ⟨vs, hfr.le (by have := HSw.out; omega)⟩
      have HMX := Lib.hid hmx
      have HFW := Lib.hid hfw
      clear hlt hxs ho hob hfb hfr hfw hmx hmU hRr hAo hXo
      go_wp2_with fail
      have z0 := HFB.out.cell 0
      have z1 := HFB.out.cell 1
      simp at z0 z1
      refine bodyPost_ret (v := .agg #[.int .i64 (C : Int), .slice ov (nl C T).length cv]) (by simp [results, Tryd.results60, go_sem, z0, z1]) rfl ⟨_, _, rfl, HMX.out, HFW.out⟩

end Go.Proofs.YtbefkngeffpokaaDoor
