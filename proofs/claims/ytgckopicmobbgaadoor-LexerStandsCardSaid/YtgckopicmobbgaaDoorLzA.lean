/- LexerLines. -/
import Derived.Test.YtgckopicmobbgaaDoorLxW
import Derived.Test.YtgckopicmobbgaaDoorLzM
import Derived.WalkKit
import Derived.WalkSpells
import Derived.WalkLawsBesides
import Derived.Handy
import Derived.Deep.QuietTactic
import Derived.BigQuiet
import Derived.Outline
import Derived.Laws.BitsAllLaws
import Derived.IntWalk
import Derived.Lib.SmallJoins
import Derived.Lib.Hide
import Derived.Deep.DeepCutAuto
import Derived.LoopTactic
import Derived.Deep.RegionWith
import Derived.Lib.ConvBytes
import Derived.OwnWalk
import Derived.Laws.MakeOwn
import Derived.Laws.IdiomStrings
import Derived.Deep.RegionHeld3
namespace Go.Proofs.YtgckopicmobbgaaDoor
set_option linter.unusedVariables false
set_option linter.unusedSimpArgs false
open Go.RowKit Lex

theorem RowT.shape2 {w : World} {R : Nat} {v : Value} {l : List Tk} (h : RowT w R v l) : ∃ o cap, v = .slice o l.length cap ∧ l.length ≤ cap ∧ Lt w o (l.map tkj) := by
  obtain ⟨o, cap, hv, hL⟩ := h.shape
  refine ⟨o, cap, hv, ?_, hL⟩
  rcases h.2 with ⟨h0, h1⟩ | ⟨g, cap', cur, h0, hHL, hLc, hcl, hcm, hcs, htk⟩
  · omega
  · have e := h0.symm.trans hv
    injection e with _ _ e3
    omega
theorem Lt.pre {w : World} {o : Option Addr} {l r : List Tj} (h : Lt w o (l ++ r)) : Lt w o l := fun hn => by
  obtain ⟨b, off, e, hb, hc⟩ := h (by rw [List.length_append]; omega)
  refine ⟨b, off, e, hb, fun i hi => ?_⟩
  have := hc i (by rw [List.length_append]; omega)
  rwa [show (l ++ r).getD i default = l.getD i default by rw [List.getD_eq_getElem?_getD, List.getD_eq_getElem?_getD, List.getElem?_append_left hi]] at this
theorem bl_lf (a b : ByteArray) : bl (a ++ ({ data := #[10] } : ByteArray) ++ b) = bl a ++ 10 :: bl b := by
  unfold bl
  rw [ByteArray.data_append, ByteArray.data_append]
  simp
theorem lf_size (a b : ByteArray) : (a ++ ({ data := #[10] } : ByteArray) ++ b).size = a.size + 1 + b.size := by
  rw [← bl_len, bl_lf, ← bl_len, ← bl_len]
  simp
  omega
theorem tok_nth (l' m : List Tk) (s i : Nat) (hi : i < m.length) : ((l' ++ m.map (shT s)).map tkj).getD (l'.length + i) default = ⟨((m.map tkj).getD i default).kd, ((m.map tkj).getD i default).tx, ((m[i].pl + s : Nat) : Int)⟩ ∧ ((m.map tkj).getD i default).pl = (m[i].pl : Int) := by
  have h1 : (m.map tkj)[i]? = some (tkj m[i]) := by rw [List.getElem?_map, List.getElem?_eq_getElem hi]; rfl
  have h2 : ((l' ++ m.map (shT s)).map tkj)[l'.length + i]? = some (tkj (shT s m[i])) := by
    rw [List.map_append, List.getElem?_append_right (by rw [List.length_map]; omega), List.length_map, Nat.add_sub_cancel_left, List.getElem?_map, List.getElem?_map, List.getElem?_eq_getElem hi]
    rfl
  rw [List.getD_eq_getElem?_getD, List.getD_eq_getElem?_getD, h1, h2]
  exact ⟨rfl, rfl⟩
set_option maxRecDepth 100000 in
set_option maxHeartbeats 4000000 in
theorem lines_ok (a b : ByteArray) (ha47 : a.size ≤ 140737488351232) (hb47 : b.size ≤ 140737488351232) (w : World) (hG : WG w) : Calls Tryd.prog 9 #[.string a, .string b] w fun e w' => e = .returned (.bool true) ∧ Below w.heap.size w w' := by
  have G := Lib.hid hG
  by_cases hl : 300 < a.size + b.size
  · have hl1 : (300 : Int) < (a.size : Int) + (b.size : Int) := by omega
    have hs1 : (a.size : Int) ≤ 140737488351232 := by omega
    have hs2 : (b.size : Int) ≤ 140737488351232 := by omega
    clear hl hG ha47 hb47
    go_enter Tryd.func9, Tryd.ntmps9
    go_wp2_with fail
    refine (awake_ok _ G.out).mono ?_
    rintro e W1 ⟨rfl, hb⟩
    have B := Lib.hid hb
    clear hb
    go_wp2_with fail
    go_ret
    exact ⟨rfl, B.out⟩
  have hl1 : ¬ (300 : Int) < (a.size : Int) + (b.size : Int) := by omega
  have hs1 : (a.size : Int) ≤ 300 := by omega
  have hs2 : (b.size : Int) ≤ 300 := by omega
  have H1 := Lib.hid (fun W h => scan_any a (by omega) W h)
  have H2 := Lib.hid (fun W h => scan_any b (by omega) W h)
  have H3 := Lib.hid (fun W h => scan_any (a ++ ({ data := #[10] } : ByteArray) ++ b) (by rw [lf_size]; omega) W h)
  rw [bl_lf] at H3
  have hlf := scanL_lf (bl a) (bl b) (by rw [bl_len, bl_len]; omega)
  obtain ⟨hbd, hpb⟩ := scanL_bd (bl b) (by rw [bl_len]; omega)
  have hll : (scanL (bl a)).1.length ≤ 1000000 := scanL_len (bl a) (by rw [bl_len]; omega)
  have hml : (scanL (bl b)).1.length ≤ 1000000 := scanL_len (bl b) (by rw [bl_len]; omega)
  rw [bl_len] at hlf hbd hpb
  obtain ⟨ra, hra⟩ : ∃ r, scanL (bl a) = r := ⟨_, rfl⟩
  obtain ⟨rb, hrb⟩ : ∃ r, scanL (bl b) = r := ⟨_, rfl⟩
  obtain ⟨la, pa, ca⟩ := ra
  obtain ⟨lm, pb, cb⟩ := rb
  rw [hra] at H1 hlf hll
  rw [hrb] at H2 hlf hbd hpb hml
  dsimp only at hlf hbd hpb hll hml
  clear hra hrb
  have ha3 : a.size ≤ 300 := by omega
  have hb3 : b.size ≤ 300 := by omega
  rcases hlf with ⟨h1, h2⟩ | ⟨h1, h2, l', h3, h4⟩
  · rw [h2] at H3
    have hca : ¬ (ca : Int) = 0 := by omega
    clear h1 h2 hbd hpb hll hml hl hG ha47 hb47 ha3 hb3
    go_enter Tryd.func9, Tryd.ntmps9
    go_wp2_with fail
    refine (H1.out _ G.out.sg).mono ?_
    rintro e W1 ⟨v1, rfl, hr1, hb⟩
    obtain ⟨o1, c1, rfl, hcap1, hl1_⟩ := hr1.shape2
    have B1 := Lib.hid hb
    replace G := Lib.hid (G.out.below hb)
    clear hb hr1 hl1_ hcap1
    dsimp only
    go_wp2_with fail
    refine (H2.out _ G.out.sg).mono ?_
    rintro e W2 ⟨v2, rfl, hr2, hb⟩
    obtain ⟨o2, c2, rfl, hcap2, hl2_⟩ := hr2.shape2
    have B2 := Lib.hid (B1.out.trans (Joins.below_le hb B1.out.size))
    replace G := Lib.hid (G.out.below hb)
    clear hb hr2 hl2_ hcap2
    dsimp only
    go_wp2_with fail
    refine (H3.out _ G.out.sg).mono ?_
    rintro e W3 ⟨v3, rfl, hr3, hb⟩
    obtain ⟨o3, c3, rfl, hcap3, hl3_⟩ := hr3.shape2
    have B3 := Lib.hid (B2.out.trans (Joins.below_le hb B2.out.size))
    replace G := Lib.hid (G.out.below hb)
    clear hb hr3 hl3_ hcap3
    dsimp only [List.length_nil]
    go_wp2_with fail
    refine (awake_ok _ G.out).mono ?_
    rintro e W4 ⟨rfl, hb⟩
    have B4 := Lib.hid (B3.out.trans (Joins.below_le hb B3.out.size))
    clear hb
    go_wp2_with fail
    go_ret
    exact ⟨rfl, B4.out⟩
  subst h1
  subst h2
  by_cases hcb : cb = 0
  case neg =>
    rw [if_neg hcb] at h4
    rw [h4] at H3
    have hcb1 : ¬ (cb : Int) = 0 := by omega
    obtain ⟨pc, hpc⟩ : ∃ pc, pb + (a.size + 1) = pc := ⟨_, rfl⟩
    obtain ⟨n1, hn1⟩ : ∃ n1, a.size + 1 = n1 := ⟨_, rfl⟩
    rw [hpc] at H3
    have hw1 : IntKind.i64.wrap ((a.size : Int) + 1) = (n1 : Int) := by rw [IntWalk.i64_in _ (by omega)]; omega
    have hw2 : IntKind.i64.wrap ((n1 : Int) + (pb : Int)) = (pc : Int) := by rw [IntWalk.i64_in _ (by omega)]; omega
    clear h3 h4 hcb hbd hpb hll hml hl hG ha47 hb47 hpc hn1 ha3 hb3
    go_enter Tryd.func9, Tryd.ntmps9
    go_wp2_with fail
    refine (H1.out _ G.out.sg).mono ?_
    rintro e W1 ⟨v1, rfl, hr1, hb⟩
    obtain ⟨o1, c1, rfl, hcap1, hl1_⟩ := hr1.shape2
    have B1 := Lib.hid hb
    replace G := Lib.hid (G.out.below hb)
    clear hb hr1 hl1_ hcap1
    dsimp only
    go_wp2_with fail
    refine (H2.out _ G.out.sg).mono ?_
    rintro e W2 ⟨v2, rfl, hr2, hb⟩
    obtain ⟨o2, c2, rfl, hcap2, hl2_⟩ := hr2.shape2
    have B2 := Lib.hid (B1.out.trans (Joins.below_le hb B1.out.size))
    replace G := Lib.hid (G.out.below hb)
    clear hb hr2 hl2_ hcap2
    dsimp only
    go_wp2_with fail
    refine (H3.out _ G.out.sg).mono ?_
    rintro e W3 ⟨v3, rfl, hr3, hb⟩
    obtain ⟨o3, c3, rfl, hcap3, hl3_⟩ := hr3.shape2
    have B3 := Lib.hid (B2.out.trans (Joins.below_le hb B2.out.size))
    replace G := Lib.hid (G.out.below hb)
    clear hb hr3 hl3_ hcap3
    dsimp only [List.length_nil]
    go_wp2_with fail
    refine (awake_ok _ G.out).mono ?_
    rintro e W4 ⟨rfl, hb⟩
    have B4 := Lib.hid (B3.out.trans (Joins.below_le hb B3.out.size))
    clear hb
    go_wp2_with fail
    go_ret
    exact ⟨rfl, B4.out⟩
  subst hcb
  rw [if_pos rfl] at h4
  rw [h4] at H3
  subst h3
  obtain ⟨K, hK⟩ : ∃ K, l'.length = K := ⟨_, rfl⟩
  obtain ⟨N, hN⟩ : ∃ N, (l' ++ [(⟨3, [], a.size⟩ : Tk)]).length = N := ⟨_, rfl⟩
  obtain ⟨M, hM⟩ : ∃ M, lm.length = M := ⟨_, rfl⟩
  obtain ⟨lb, hlb⟩ : ∃ lb, l' ++ lm.map (shT (a.size + 1)) = lb := ⟨_, rfl⟩
  obtain ⟨B, hB⟩ : ∃ B, lb.length = B := ⟨_, rfl⟩
  have hNK : N = K + 1 := by rw [← hN, ← hK]; simp
  have hBKM : B = K + M := by rw [← hB, ← hlb, ← hK, ← hM]; simp
  have hnth : ∀ i, i < M → ∃ kd tx, ∃ pl q : Nat, (lm.map tkj).getD i default = ⟨kd, tx, (pl : Int)⟩ ∧ (lb.map tkj).getD (K + i) default = ⟨kd, tx, (q : Int)⟩ ∧ q = pl + (a.size + 1) ∧ pl ≤ 300 := fun i hi => by
    have hi' : i < lm.length := by omega
    obtain ⟨t1, t2⟩ := tok_nth l' lm (a.size + 1) i hi'
    rw [hlb, hK] at t1
    refine ⟨_, _, lm[i].pl, _, ?_, t1, rfl, ?_⟩
    · rw [← t2]
    · have := hbd _ (List.getElem_mem hi')
      omega
  rw [hlb] at H3
  have HN := Lib.hid hN
  have HM := Lib.hid hM
  have HB := Lib.hid hB
  have HK := Lib.hid hK
  have HNth := Lib.hid hnth
  have hpre1 := fun W o (h : Lt W o ((l' ++ [(⟨3, [], a.size⟩ : Tk)]).map tkj)) => show Lt W o (l'.map tkj) by rw [List.map_append] at h; exact h.pre
  have hpre3 := fun W o (h : Lt W o (lb.map tkj)) => show Lt W o (l'.map tkj) by rw [← hlb, List.map_append] at h; exact h.pre
  have HP1 := Lib.hid hpre1
  have HP3 := Lib.hid hpre3
  have hsame := fun o p cap cap' W h h' => same_ok (l'.map tkj) (by rw [List.length_map]; rw [hN] at hll; omega) o p cap cap' W h h'
  rw [List.length_map, hK] at hsame
  have HS := Lib.hid hsame
  obtain ⟨n1, hn1⟩ : ∃ n1, a.size + 1 = n1 := ⟨_, rfl⟩
  have HN1 := Lib.hid hn1
  have hw1 : IntKind.i64.wrap ((a.size : Int) + 1) = (n1 : Int) := by rw [IntWalk.i64_in _ (by omega)]; omega
  rw [hN] at hll
  rw [hM] at hml
  have hw2 : IntKind.i64.wrap ((N : Int) - 1) = (K : Int) := by rw [IntWalk.i64_in _ (by omega)]; omega
  have hw3 : IntKind.i64.wrap ((K : Int) + (M : Int)) = (B : Int) := by rw [IntWalk.i64_in _ (by omega)]; omega
  have hN0 : ¬ (N : Int) = 0 := by omega
  have HNK := Lib.hid hNK
  have HBKM := Lib.hid hBKM
  have HLL := Lib.hid hll
  have HML := Lib.hid hml
  have HA3 := Lib.hid ha3
  clear h4 hlb hbd hpb hl hG ha47 hb47 ha3 hb3 hnth hpre1 hpre3 hsame hn1 hN hM hB hK hNK hBKM hll hml
  go_enter Tryd.func9, Tryd.ntmps9
  go_wp2_with fail
  refine (H1.out _ G.out.sg).mono ?_
  rintro e W1 ⟨v1, rfl, hr1, hb⟩
  obtain ⟨o1, c1, rfl, hcap1, hlt1⟩ := hr1.shape2
  have B1 := Lib.hid hb
  replace G := Lib.hid (G.out.below hb)
  have L1 := Lib.hid hlt1
  dsimp only at hcap1 L1 ⊢
  rw [HN.out] at hcap1 ⊢
  have HC1 := Lib.hid hcap1
  clear hb hr1 hlt1 hcap1
  go_wp2_with fail
  refine (H2.out _ G.out.sg).mono ?_
  rintro e W2 ⟨v2, rfl, hr2, hb⟩
  obtain ⟨o2, c2, rfl, hcap2, hlt2⟩ := hr2.shape2
  have B2 := Lib.hid (B1.out.trans (Joins.below_le hb B1.out.size))
  replace G := Lib.hid (G.out.below hb)
  replace L1 := Lib.hid (L1.out.below hb)
  have L2 := Lib.hid hlt2
  dsimp only at L2 ⊢
  rw [HM.out]
  clear hb hr2 hlt2 hcap2
  go_wp2_with fail
  refine (H3.out _ G.out.sg).mono ?_
  rintro e W3 ⟨v3, rfl, hr3, hb⟩
  obtain ⟨o3, c3, rfl, hcap3, hlt3⟩ := hr3.shape2
  have B3 := Lib.hid (B2.out.trans (Joins.below_le hb B2.out.size))
  replace G := Lib.hid (G.out.below hb)
  replace L1 := Lib.hid (L1.out.below hb)
  replace L2 := Lib.hid (L2.out.below hb)
  have L3 := Lib.hid hlt3
  dsimp only at hcap3 L3 ⊢
  rw [HB.out] at hcap3 ⊢
  have HC3 := Lib.hid hcap3
  clear hb hr3 hlt3 hcap3 B1 B2
  go_wp2_with fail
  go_loopw [104] (fun j wr => ∃ i : Nat, i ≤ M ∧ j = .int .i64 (i : Int) ∧ Below W3.heap.size W3 wr) (fun j _ => M - (intOf j).toNat)
  case atStart => exact ⟨0, by omega, by first | trivial | rfl, Below.refl _ _⟩
  case round =>
    obtain ⟨i, hi, rfl, hbe⟩ := hrel
    by_cases hlt : i < M
    · have hi1 : (i : Int) < (M : Int) := by omega
      have hi0 : (0 : Int) ≤ (i : Int) := by omega
      obtain ⟨b2, f2, rfl, hb2, hc2⟩ := (L2.out.below hbe) (by rw [List.length_map, HM.out]; omega)
      obtain ⟨b3, f3, rfl, hb3, hc3⟩ := (L3.out.below hbe) (by rw [List.length_map, HB.out]; have := HBKM.out; omega)
      obtain ⟨x0, x1, x2⟩ := hc2 i (by rw [List.length_map, HM.out]; exact hlt)
      obtain ⟨q, hq⟩ : ∃ q, K + i = q := ⟨_, rfl⟩
      obtain ⟨y0, y1, y2⟩ := hc3 q (by rw [List.length_map, HB.out]; have := HBKM.out; omega)
      obtain ⟨kd, tx, pl, pq, t1, t2, hpq, hpl⟩ := HNth.out i hlt
      rw [hq] at t2
      rw [t1] at x0 x1 x2
      rw [t2] at y0 y1 y2
      dsimp only at x0 x1 x2 y0 y1 y2
      obtain ⟨tb, htb⟩ : ∃ tb, mk tx = tb := ⟨_, rfl⟩
      rw [htb] at x1 y1
      have hkn := HNK.out
      have hbkm := HBKM.out
      have hL1 := HLL.out
      have hM1 := HML.out
      have hA3 := HA3.out
      have hn1 := HN1.out
      have hqw : IntKind.i64.wrap ((K : Int) + (i : Int)) = (q : Int) := by rw [IntWalk.i64_in _ (by omega)]; omega
      have hpw : IntKind.i64.wrap ((pl : Int) + (n1 : Int)) = (pq : Int) := by rw [IntWalk.i64_in _ (by omega)]; omega
      have hqB : (q : Int) < (B : Int) := by omega
      have hqBn : q < B := by omega
      have hq0 : (0 : Int) ≤ (q : Int) := by omega
      have HBe := Lib.hid hbe
      have hne := tok_ne
      have heq := tok_eqin
      clear hc2 hc3 t1 t2 htb hq hpq hpl hkn hbkm hL1 hM1 hA3 hn1 hbe
      go_wp2_with fail
      go_quiet (fail)
      have hM1 := HML.out
      go_wp2_with fail
      go_roundw
      case rel => exact ⟨i + 1, by omega, by go_num, by first | exact below_dn _ (HBe.out.alloc HBe.out.size _) | exact HBe.out.alloc HBe.out.size _⟩
      case measure => simp [intOf]; omega
    · obtain rfl : i = M := by omega
      have hL1 := HLL.out
      have hkn := HNK.out
      have hbkm := HBKM.out
      have hC1 := HC1.out
      have hC3 := HC3.out
      obtain ⟨b1, f1, rfl, hb1, _⟩ := (L1.out.below hbe) (by rw [List.length_map, HN.out]; omega)
      have HW := Lib.hid (fun V (hV : Below wr.heap.size wr V) => B3.out.trans (Joins.below_le (hbe.trans (Joins.below_le hV hbe.size)) B3.out.size))
      have HAw := Lib.hid (fun V (hV : Below wr.heap.size wr V) => awake_ok V ((G.out.below hbe).below hV))
      have HSm := Lib.hid (fun V (hV : Below wr.heap.size wr V) => HS.out _ _ c3 c1 V (HP3.out _ _ ((L3.out.below hbe).below hV)) (HP1.out _ _ ((L1.out.below hbe).below hV)))
      have hk0 : (0 : Int) ≤ (K : Int) := by omega
      have hk1 : (K : Int) ≤ (c1 : Int) := by omega
      have hk3 : (K : Int) ≤ (c3 : Int) := by omega
      have hk1n : K ≤ c1 := by omega
      have hk3n : K ≤ c3 := by omega
      clear hlt hL1 hkn hbkm hC1 hC3 hbe
      go_wp2_with fail
      go_region_held3 (fun V => Below wr.heap.size wr V) (first | exact Below.refl _ _ | assumption | exact below_dn 1 (Below.refl _ _) | exact below_dn 1 (by assumption)) (first
        | (go_at_call 15; refine (HSm.out _ (by first | assumption | exact Below.refl _ _ | exact below_dn 1 (Below.refl _ _) | exact below_dn 1 (by assumption) | exact And.left (by assumption))).mono ?_; rintro e y ⟨rfl, hz1⟩; have kk1 : Below wr.heap.size wr y := Below.trans (by first | assumption | exact Below.refl _ _ | exact below_dn 1 (Below.refl _ _) | exact below_dn 1 (by assumption) | exact And.left (by assumption)) (Joins.below_le hz1 (Below.size (by first | assumption | exact Below.refl _ _ | exact below_dn 1 (Below.refl _ _) | exact below_dn 1 (by assumption) | exact And.left (by assumption)))))
        | (go_at_call 12; refine (HAw.out _ (by first | assumption | exact Below.refl _ _ | exact below_dn 1 (Below.refl _ _) | exact below_dn 1 (by assumption) | exact And.left (by assumption))).mono ?_; rintro e y ⟨rfl, hz2⟩; have kk2 : Below wr.heap.size wr y := Below.trans (by first | assumption | exact Below.refl _ _ | exact below_dn 1 (Below.refl _ _) | exact below_dn 1 (by assumption) | exact And.left (by assumption)) (Joins.below_le hz2 (Below.size (by first | assumption | exact Below.refl _ _ | exact below_dn 1 (Below.refl _ _) | exact below_dn 1 (by assumption) | exact And.left (by assumption)))))
        | fail)
      all_goals
        go_wp2_with fail
        go_ret
        exact ⟨rfl, HW.out _ (by first | assumption | exact Below.refl _ _ | exact below_dn 1 (Below.refl _ _) | exact below_dn 1 (by assumption) | exact And.left (by assumption))⟩

end Go.Proofs.YtgckopicmobbgaaDoor
