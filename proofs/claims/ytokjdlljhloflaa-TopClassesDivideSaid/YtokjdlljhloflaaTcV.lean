/- TopClassesDivide's walk: partitions. -/
import Derived.Test.YtokjdlljhloflaaTcU
import Derived.WalkKit
import Derived.WalkSpells
import Derived.WalkLawsBesides
import Derived.Handy
import Derived.Deep.QuietTactic
import Derived.BigQuiet
import Derived.Outline
import Derived.Laws.BitsAllLaws
import Derived.IntWalk
import Derived.Lib.SmallJoins
import Derived.Lib.Hide
import Derived.Deep.DeepCutAuto
import Derived.LoopTactic
import Derived.Deep.RegionWith
namespace Go.Proofs.Ytokjdlljhloflaa
set_option linter.unusedVariables false
set_option linter.unusedSimpArgs false
open Go.RowKit Part Go.Sort

theorem Lb.kept_at {B pb B' g off : Nat} {w W : World} {n : Nat} {f : Nat → Int} (h : Lb B w (some ⟨g, off, none⟩) n f) (hk : Kept (some pb) B' w W) (h1 : g ≠ pb) (h2 : g < B') : Lb B W (some ⟨g, off, none⟩) n f := fun hn => by
  obtain ⟨b, off, e, hl, hc⟩ := h hn
  injection e with e
  injection e with e1 e2
  subst e1
  subst e2
  exact ⟨_, _, rfl, hl, fun i hi => (World.cell?_of_block (w := w) (a := ⟨_, _ + i, none⟩) (hk.block _ h2 (by rintro e; injection e with e; exact h1 e))).trans (hc i hi)⟩
theorem few_app {X Y : List Nat} (hX : Few5 X) (hY : Few5 Y) {i : Nat} (hi : i < (X ++ Y).length) : (0 < (X ++ Y).getD i 0 ∧ (X ++ Y).getD i 0 < 32) ∧ ((X ++ Y).getD i 0 ∈ X ∨ (X ++ Y).getD i 0 ∈ Y) := by
  rw [List.length_append] at hi
  rw [List.getD_eq_getElem?_getD, List.getElem?_append]
  split
  · rename_i h
    have := hX.at_ i h
    rw [List.getD_eq_getElem?_getD] at this
    refine ⟨this, .inl ?_⟩
    rw [List.getElem?_eq_getElem h]
    exact List.getElem_mem h
  · rename_i h
    have := hY.at_ (i - X.length) (by omega)
    rw [List.getD_eq_getElem?_getD] at this
    refine ⟨this, .inr ?_⟩
    rw [List.getElem?_eq_getElem (by omega)]
    exact List.getElem_mem _
theorem getD_mem {X : List Nat} {i : Nat} (h : i < X.length) : X.getD i 0 ∈ X := by
  rw [List.getD_eq_getElem?_getD, List.getElem?_eq_getElem h]
  exact List.getElem_mem h
def two (X Y : List Nat) : Nat → List Int := fun i => if i = 0 then nints X else nints Y
theorem pre_two (X Y : List Nat) : pre (two X Y) 2 = nints (X ++ Y) := by
  show ([] ++ nints X) ++ nints Y = _
  rw [List.nil_append]
  exact List.map_append.symm
theorem nints_app (x y : List Nat) : nints (x ++ y) = nints x ++ nints y := List.map_append
set_option maxRecDepth 100000 in
set_option maxHeartbeats 16000000 in
theorem dv_good (n : Nat) (h1 : 1 ≤ n) (h5 : n ≤ 5) (f g : Nat → Int) (hf : Good n f) (hg : Good n g) (o p : Option Addr) (cap cap' : Nat) (w : World) (hL : Lz w o n f) (hL' : Lz w p n g) : Calls Try.prog 3 #[.slice o n cap, .slice p n cap'] w fun e w' => e = .returned (.bool true) ∧ Below w.heap.size w w' := by
  have H1 := Lib.hid (fun W h => rcheck_any n f o cap W h)
  rw [(pcd_zero n f).2 hf] at H1
  have H2 := Lib.hid (fun W h => rcheck_any n g p cap' W h)
  rw [(pcd_zero n g).2 hg] at H2
  have hA := cls_few h1 h5 hf.2.2
  have hB := cls_few h1 h5 hg.2.2
  have hS := cls_sum h5 hf.2.2
  have HX := Lib.hid (fun W h => caseSets_ok n h1 h5 f hf o cap W h)
  have HY := Lib.hid (fun W h => caseSets_ok n h1 h5 g hg p cap' W h)
  have HM := Lib.hid (fun W h k => meet_c n f g hf hg o p cap cap' W h k)
  have HJ := Lib.hid (fun W h k => join_c n f g hf hg o p cap cap' W h k)
  have HC := Lib.hid (fun m hm q c W h => caseSets_ok n h1 h5 m hm q c W h)
  have HP := Lib.hid (fun W => Ps.all_okn n h1 h5 W)
  have HMeet := Lib.hid (fun m (hm : IsMeet n (nat f) (nat g) m) => cls_meet h5 hf.2.2 hg.2.2 hm)
  have HJoin := Lib.hid (fun m (hw : Wf n m) (hm : IsJoin n (nat f) (nat g) m) s c hs hc => cls_join (s := s) (c := c) h5 hf.2.2 hg.2.2 hm hs hc)
  have HFew := Lib.hid (fun m (hw : Wf n m) => cls_few h1 h5 hw)
  obtain ⟨X, hX⟩ : ∃ X, cls (nat f) n = X := ⟨_, rfl⟩
  obtain ⟨Y, hY⟩ : ∃ Y, cls (nat g) n = Y := ⟨_, rfl⟩
  rw [hX] at hA hS HX HMeet HJoin
  rw [hY] at hB HY HMeet HJoin
  obtain ⟨q, hq⟩ : ∃ q : Int, ((2 ^ n : Nat) : Int) - 1 = q := ⟨_, rfl⟩
  rw [hq] at HP
  have hsum : ((sm X X.length : Nat) : Int) = q := by
    rw [sm_all, hS, ← hq]
    have := Nat.pow_pos (a := 2) (n := n) (by omega)
    omega
  have HSum := Lib.hid hsum
  have FA := Lib.hid hA
  have FB := Lib.hid hB
  have h1' : ¬ (n : Int) < 1 := by omega
  have h2' : ¬ (5 : Int) < (n : Int) := by omega
  have La := Lib.hid hL
  have Lc := Lib.hid hL'
  clear hL hL' hf hg hA hB hS hX hY hq hsum h1 h5
  go_enter Try.func3, Try.ntmps3
  go_wp2_with fail
  refine (Gra.awake_c _).mono ?_
  rintro e W0 ⟨rfl, hb⟩
  have B0 := Lib.hid hb
  replace La := Lib.hid (La.out.below hb)
  replace Lc := Lib.hid (Lc.out.below hb)
  clear hb
  go_wp2_with fail
  refine (H1.out _ La.out).mono ?_
  rintro e w' ⟨rfl, rfl⟩
  go_wp2_with fail
  refine (H2.out _ Lc.out).mono ?_
  rintro e w' ⟨rfl, rfl⟩
  go_wp2_with fail
  refine (HX.out _ La.out).mono ?_
  rintro e W1 ⟨v1, rfl, hr, hb⟩
  obtain ⟨gx, cx, rfl, hgx0, hgx, hlx⟩ := row_lb hr FA.out.pos
  have B1 := Lib.hid (B0.out.trans (Joins.below_le hb B0.out.size))
  have LX := Lib.hid (hlx.more (show gx + 1 ≤ W1.heap.size by omega))
  replace La := Lib.hid (La.out.below hb)
  replace Lc := Lib.hid (Lc.out.below hb)
  clear hr hb hlx hgx0 hgx B0 HX
  go_wp2_with fail
  refine (HY.out _ Lc.out).mono ?_
  rintro e W2 ⟨v2, rfl, hr, hb⟩
  obtain ⟨gy, cy, rfl, hgy0, hgy, hly⟩ := row_lb hr FB.out.pos
  have B2 := Lib.hid (B1.out.trans (Joins.below_le hb B1.out.size))
  replace LX := Lib.hid ((LX.out.below hb).more hb.size)
  have LY := Lib.hid (hly.more (show gy + 1 ≤ W2.heap.size by omega))
  replace La := Lib.hid (La.out.below hb)
  replace Lc := Lib.hid (Lc.out.below hb)
  clear hr hb hly hgy0 hgy B1 HY
  go_wp2_with fail
  refine (HP.out _).mono ?_
  rintro e w' ⟨rfl, rfl⟩
  go_wp2_with fail
  refine (HM.out _ La.out Lc.out).mono ?_
  rintro e W3 ⟨m, qm, cm, rfl, gm, hm, hl, hb⟩
  have B3 := Lib.hid (B2.out.trans (Joins.below_le hb B2.out.size))
  replace LX := Lib.hid ((LX.out.below hb).more hb.size)
  replace LY := Lib.hid ((LY.out.below hb).more hb.size)
  replace La := Lib.hid (La.out.below hb)
  replace Lc := Lib.hid (Lc.out.below hb)
  have Lm := Lib.hid hl
  have GM := Lib.hid gm
  have FM := Lib.hid (HFew.out _ gm.2.2)
  have PM := Lib.hid (HMeet.out _ hm)
  clear gm hm hl hb B2 HM HMeet
  go_wp2_with fail
  refine (HJ.out _ La.out Lc.out).mono ?_
  rintro e W4 ⟨j, qj, cj, rfl, gj, hj, hl, hb⟩
  have B4 := Lib.hid (B3.out.trans (Joins.below_le hb B3.out.size))
  replace LX := Lib.hid ((LX.out.below hb).more hb.size)
  replace LY := Lib.hid ((LY.out.below hb).more hb.size)
  replace Lm := Lib.hid (Lm.out.below hb)
  have Lj := Lib.hid hl
  have GJ := Lib.hid gj
  have FJ := Lib.hid (HFew.out _ gj.2.2)
  have PJ := Lib.hid (fun s c hs hc => HJoin.out _ gj.2.2 hj s c hs hc)
  clear gj hj hl hb B3 HJ HJoin HFew La Lc
  go_wp2_with fail
  refine (HC.out _ GM.out _ _ _ Lm.out).mono ?_
  rintro e W5 ⟨v5, rfl, hr, hb⟩
  have B5 := Lib.hid (B4.out.trans (Joins.below_le hb B4.out.size))
  replace LX := Lib.hid (LX.out.below hb)
  replace LY := Lib.hid (LY.out.below hb)
  replace Lj := Lib.hid (Lj.out.below hb)
  have hz5 := hb.size
  have HZ5 := Lib.hid hz5
  obtain ⟨Mm, hMm⟩ : ∃ Mm, cls (nat m) n = Mm := ⟨_, rfl⟩
  rw [hMm] at hr PM FM
  obtain ⟨gm, cm5, rfl, hgm0, hgm, _⟩ := row_lb hr FM.out.pos
  have HGm := Lib.hid hgm
  have HGm0 := Lib.hid hgm0
  have HZ0 := Lib.hid B4.out.size
  have RM := Lib.hid hr
  clear hr hb hz5 B4 GM Lm hMm hgm hgm0
  go_wp2_with fail
  refine (HC.out _ GJ.out _ _ _ Lj.out).mono ?_
  rintro e W6 ⟨v6, rfl, hr, hb⟩
  obtain ⟨Jm, hJm⟩ : ∃ Jm, cls (nat j) n = Jm := ⟨_, rfl⟩
  rw [hJm] at hr PJ FJ
  obtain ⟨gj, cj2, rfl, hgj0, hgj, hlj⟩ := row_lb hr FJ.out.pos
  have HGj := Lib.hid hgj
  have HGj0 := Lib.hid hgj0
  have LJ := Lib.hid hlj
  have B6 := Lib.hid (B5.out.trans (Joins.below_le hb B5.out.size))
  replace LX := Lib.hid (LX.out.below (Joins.below_le hb HZ5.out))
  replace LY := Lib.hid (LY.out.below (Joins.below_le hb HZ5.out))
  replace RM := Lib.hid (RM.out.below hb)
  have HZ6 := Lib.hid hb.size
  clear hr hb hgj0 hgj hlj B5 GJ Lj hJm HC
  obtain ⟨kx, hkx⟩ : ∃ kx, X.length = kx := ⟨_, rfl⟩
  obtain ⟨ky, hky⟩ : ∃ ky, Y.length = ky := ⟨_, rfl⟩
  have HKX := Lib.hid hkx
  have HKY := Lib.hid hky
  rw [hkx, hky]
  rw [hkx] at LX HSum
  rw [hky] at LY
  have hkx5 : kx ≤ 5 := by rw [← hkx]; exact FA.out.len
  have hky5 : ky ≤ 5 := by rw [← hky]; exact FB.out.len
  have hkx0 : 0 < kx := by rw [← hkx]; exact FA.out.pos
  have hky0 : 0 < ky := by rw [← hky]; exact FB.out.pos
  clear hkx hky
  go_wp2_with fail
  go_loopw [18, 19, 111] (fun s v i wr => ∃ c : Nat, c ≤ kx ∧ i = .int .i64 (c : Int) ∧ s = .int .i64 ((sm X c : Nat) : Int) ∧ Row wr W6.heap.size v (nints (wp X Y c)) ∧ Below W6.heap.size W6 wr) (fun _ _ i _ => kx - (intOf i).toNat)
  case atStart => exact ⟨0, by omega, by first | trivial | rfl, by first | trivial | rfl, Row.nil _ _, Below.refl _ _⟩
  case round =>
    obtain ⟨c, hc, rfl, rfl, hrw, hbe⟩ := hrel
    by_cases hlt : c < kx
    · have hc1 : (c : Int) < (kx : Int) := by omega
      have LXr := LX.out.below (Joins.below_le hbe (Nat.le_trans HZ5.out HZ6.out))
      obtain ⟨bx, ofx, ex, hbx, hcx⟩ := LXr hkx0
      injection ex with ex
      injection ex with ex1 ex2
      subst ex1
      subst ex2
      have hcc : c < X.length := by rw [HKX.out]; exact hlt
      have hcx1 := hcx c hlt
      rw [Nat.zero_add] at hcx1
      have hx32 := (FA.out.at_ c hcc).2
      have hsl := sm_le FA.out c (by omega)
      have hs1 := sm_succ hcc
      have hw1 := wp_succ (Y := Y) hcc
      have hwl := wp_len (X := X) FB.out.len c (by omega)
      unfold zl at hcx1
      obtain ⟨xc, hxc⟩ : ∃ xc, X.getD c 0 = xc := ⟨_, rfl⟩
      rw [hxc] at hcx1 hx32 hs1 hw1
      obtain ⟨sv, hsv⟩ : ∃ sv, sm X c = sv := ⟨_, rfl⟩
      rw [hsv] at hsl hs1 ⊢
      have HS1 := Lib.hid hs1
      have HW1 := Lib.hid hw1
      have HWL := Lib.hid hwl
      have hwr : wrap64 ((sv : Int) + (xc : Int)) = ((sv + xc : Nat) : Int) := by unfold wrap64; omega
      have HRw := Lib.hid hrw
      have HBe := Lib.hid hbe
      clear hcx LXr hbx hsv hs1 hw1 hwl hrw hbe hxc hcc
      go_wp2_with fail
      go_loopw [19, 120] (fun v i wl => ∃ d : Nat, d ≤ ky ∧ i = .int .i64 (d : Int) ∧ Row wl W6.heap.size v (nints (wp X Y c ++ inn xc (Y.take d))) ∧ Below W6.heap.size W6 wl) (fun _ i _ => ky - (intOf i).toNat)
      case atStart => exact ⟨0, by omega, by first | trivial | rfl, by simp [inn]; exact HRw.out, HBe.out⟩
      case round =>
        obtain ⟨d, hd, rfl, hrw, hbe⟩ := hrel
        by_cases hdt : d < ky
        · have hd1 : (d : Int) < (ky : Int) := by omega
          have LYr := LY.out.below (Joins.below_le hbe (Nat.le_trans HZ5.out HZ6.out))
          obtain ⟨by_, ofy, ey, hby, hcy⟩ := LYr hky0
          injection ey with ey
          injection ey with ey1 ey2
          subst ey1
          subst ey2
          have hdd : d < Y.length := by rw [HKY.out]; exact hdt
          have hcy1 := hcy d hdt
          rw [Nat.zero_add] at hcy1
          have hy32 := (FB.out.at_ d hdd).2
          have hi1 := inn_succ (x := xc) hdd
          have hil := inn_len xc (Y.take d)
          have hil2 : (Y.take d).length ≤ 5 := by rw [List.length_take]; omega
          unfold zl at hcy1
          obtain ⟨yd, hyd⟩ : ∃ yd, Y.getD d 0 = yd := ⟨_, rfl⟩
          rw [hyd] at hcy1 hy32 hi1
          have hand := and_32 hx32 hy32
          have HRw2 := Lib.hid hrw
          have HBe2 := Lib.hid hbe
          have HPl := Lib.hid (show (nints (wp X Y c ++ inn xc (Y.take d))).length ≤ 1000000 by
            rw [nints_len, List.length_append]
            have := HWL.out
            omega)
          have HSz := Lib.hid hbe.size
          by_cases hz : xc &&& yd = 0
          · rw [hz] at hand
            rw [if_pos hz, List.append_nil] at hi1
            have HI1 := Lib.hid hi1
            clear hcy LYr hby hi1 hil hil2 hrw hbe hdd hyd hx32 hy32
            go_wp2_with fail
            go_roundw
            case rel => exact ⟨d + 1, by omega, by go_num, by rw [HI1.out]; exact HRw2.out, HBe2.out⟩
            case measure => simp [intOf]; omega
          · rw [if_neg hz] at hi1
            have HI1 := Lib.hid hi1
            obtain ⟨z, hzz⟩ : ∃ z, xc &&& yd = z := ⟨_, rfl⟩
            rw [hzz] at hand hz HI1
            have hz1 : ((z : Int) != 0) = true := by rw [bne_iff_ne]; omega
            have hz2 : ¬ (z : Int) = 0 := by omega
            clear hcy LYr hby hi1 hil hil2 hrw hbe hdd hyd hx32 hy32 hzz hz
            go_wp2_with (at_builtin; refine app_int _ rfl _ _ rfl W6.heap.size _ _ rfl (HRw2.out.alloc _) _ (z : Int) rfl (World.cell?_alloc_mark _ #[_] 3 (0, 0) 0) HPl.out (by have := HSz.out; simp; omega) ?_; intro gg cv2 w2 hr2 hbb2 hgg; have HR2 := Lib.hid hr2; have HBB := Lib.hid ((HBe2.out.alloc HSz.out _).trans hbb2); clear hr2 hbb2)
            go_roundw
            case rel => exact ⟨d + 1, by omega, by go_num, by rw [HI1.out, ← List.append_assoc, nints_snoc]; exact HR2.out, HBB.out⟩
            case measure => simp [intOf]; omega
        · have e : d = ky := by omega
          subst e
          have HRw2 := Lib.hid hrw
          have HBe2 := Lib.hid hbe
          clear hrw hbe hdt
          go_wp2_with fail
          go_roundw
          case rel => exact ⟨c + 1, by omega, by go_num, by rw [HS1.out]; go_num, by rw [HW1.out, HKY.out]; exact HRw2.out, HBe2.out⟩
          case measure => simp [intOf]; omega
    · have e : kx = c := by omega
      subst e
      rw [HSum.out]
      have hW7 : wp X Y kx = wantL X Y := by unfold wp; rw [← HKX.out, List.take_length]
      rw [hW7] at hrw
      clear hW7
      have hlw : (nints (wantL X Y)).length = Mm.length := by rw [nints_len, PM.out.length_eq]
      have hso := sort_perm PM.out
      obtain ⟨S, hS⟩ : ∃ S, (nints Mm).mergeSort (fun a b => decide (a ≤ b)) = S := ⟨_, rfl⟩
      rw [hS] at hso
      have hSl : S.length = Mm.length := by rw [← hS, List.length_mergeSort, nints_len]
      have hm0 := FM.out.pos
      have hm5 := FM.out.len
      obtain ⟨gw, cw, hv, hgw0, hgw, hsw⟩ := sort_at (nints (wantL X Y)) S (by omega) (by omega) (by omega) hso _ _ _ hrw
      subst hv
      obtain ⟨km, hkm⟩ : ∃ km, Mm.length = km := ⟨_, rfl⟩
      rw [hlw, hkm] at hsw
      rw [hlw, hkm]
      rw [hkm] at hSl hm0 hm5
      have HSw := Lib.hid hsw
      have HS := Lib.hid hS
      have HSl := Lib.hid hSl
      have HKm := Lib.hid hkm
      have HGw := Lib.hid hgw
      have HGw0 := Lib.hid hgw0
      have HBe := Lib.hid hbe
      clear hrw hbe hlt hlw hso hS hSl hsw hgw hgw0 hkm PM
      go_wp2_with fail
      refine HSw.out.mono ?_
      rintro e W7 ⟨rfl, hk, hr⟩
      have B67 := Lib.hid (HBe.out.trans ((hk.le HBe.out.size).below (fun k e => by injection e with e; rw [← e]; exact HGw0.out)))
      replace RM := Lib.hid (RM.out.below B67.out)
      replace LX := Lib.hid (LX.out.below (B67.out.mono (Nat.le_trans HZ5.out HZ6.out)))
      replace LY := Lib.hid (LY.out.below (B67.out.mono (Nat.le_trans HZ5.out HZ6.out)))
      replace LJ := Lib.hid ((LJ.out.below (B67.out.mono HGj.out)).more (show gj + 1 ≤ W7.heap.size by have := HGj.out; have := B67.out.size; omega))
      have B7 := Lib.hid (B6.out.trans (Joins.below_le B67.out B6.out.size))
      have RW := Lib.hid hr
      obtain ⟨gm2, cm6, hv, hgm1, hgm2, hsm⟩ := sort_at (nints Mm) S (by rw [nints_len, HKm.out]; exact hm0) (by rw [nints_len, HKm.out]; exact HSl.out) (by rw [nints_len, HKm.out]; omega) HS.out _ _ _ RM.out
      injection hv with hv1 hv2 hv3
      injection hv1 with hv1
      injection hv1 with hv1
      subst hv1
      have HSm := Lib.hid hsm
      clear hk hr hgm1 hgm2 hsm hv2 hv3 HSw B6
      rw [HKm.out] at HSm
      go_wp2_with fail
      refine HSm.out.mono ?_
      rintro e W8 ⟨rfl, hk, hr⟩
      have B8 := Lib.hid (B7.out.trans ((hk.le B7.out.size).below (fun k e => by injection e with e; rw [← e]; exact Nat.le_trans HZ0.out HGm0.out)))
      replace RW := Lib.hid (RW.out.keep fun k h1 h2 => hk.block k h2 (by rintro e; injection e with e; have := HGm.out; have := HZ6.out; omega))
      have RN := Lib.hid hr
      replace LX := Lib.hid (LX.out.kept hk HGm0.out (Nat.le_trans (Nat.le_trans HZ5.out HZ6.out) B67.out.size))
      replace LY := Lib.hid (LY.out.kept hk HGm0.out (Nat.le_trans (Nat.le_trans HZ5.out HZ6.out) B67.out.size))
      replace LJ := Lib.hid ((LJ.out.kept_at hk (by have := HGm.out; have := HGj0.out; omega) (by have := HGj.out; have := B67.out.size; omega)).more hk.size)
      have hzz : W4.heap.size ≤ W8.heap.size := Nat.le_trans (Nat.le_trans (Nat.le_trans HZ5.out HZ6.out) B67.out.size) hk.size
      replace LX := Lib.hid (LX.out.more hzz)
      replace LY := Lib.hid (LY.out.more hzz)
      clear hk hr hzz B7 RM HSm
      obtain ⟨ow, cw2, ew, hzw⟩ := RW.out.shape
      obtain ⟨on, cn2, en, hzn⟩ := RN.out.shape
      injection ew with ew1 ew2 ew3
      injection en with en1 en2 en3
      subst ew1
      subst en1
      have heq := equal_any S.length S.length (by rw [HSl.out]; omega) _ _ _ _ cw cm5 _ hzw hzn
      rw [eqb_self (fun i _ => rfl), HSl.out] at heq
      have HEq := Lib.hid heq
      clear hzw hzn heq ew2 ew3 en2 en3 RW RN HSum
      go_wp2_with fail
      refine HEq.out.mono ?_
      rintro e W9 ⟨rfl, hb⟩
      have B9 := Lib.hid (B8.out.trans (Joins.below_le hb B8.out.size))
      replace LX := Lib.hid ((LX.out.below hb).more hb.size)
      replace LY := Lib.hid ((LY.out.below hb).more hb.size)
      replace LJ := Lib.hid ((LJ.out.below hb).more hb.size)
      clear hb B8 HEq B67
      obtain ⟨kj, hkj⟩ : ∃ kj, Jm.length = kj := ⟨_, rfl⟩
      have HKJ := Lib.hid hkj
      rw [hkj]
      rw [hkj] at LJ
      have hkj5 : kj ≤ 5 := by rw [← hkj]; exact FJ.out.len
      have hkj0 : 0 < kj := by rw [← hkj]; exact FJ.out.pos
      clear hkj
      go_wp2_with fail
      go_loopw [159] (fun i wr => ∃ c : Nat, c ≤ kj ∧ i = .int .i64 (c : Int) ∧ Below W9.heap.size W9 wr) (fun i _ => kj - (intOf i).toNat)
      case atStart => exact ⟨0, by omega, by first | trivial | rfl, Below.refl _ _⟩
      case round =>
        obtain ⟨c, hc, rfl, hbe⟩ := hrel
        by_cases hlt : c < kj
        · have hc1 : (c : Int) < (kj : Int) := by omega
          obtain ⟨bj, ofj, ej, hbj, hcj⟩ := (LJ.out.below hbe) hkj0
          injection ej with ej
          injection ej with ej1 ej2
          subst ej1
          subst ej2
          have hcc : c < Jm.length := by rw [HKJ.out]; exact hlt
          have hcj1 := hcj c hlt
          rw [Nat.zero_add] at hcj1
          have hj32 := (FJ.out.at_ c hcc).2
          have hjm := getD_mem hcc
          unfold zl at hcj1
          obtain ⟨jc, hjc⟩ : ∃ jc, Jm.getD c 0 = jc := ⟨_, rfl⟩
          rw [hjc] at hcj1 hj32 hjm
          have HPj := Lib.hid (fun c hc => PJ.out jc c hjm hc)
          have HBe := Lib.hid hbe
          have hbe' := hbe.size
          clear hcj hbj hjc hjm hcc hbe
          have hcon : ∀ W, Ls W (some ⟨wr.heap.size, 0, none⟩) 2 (two X Y) → Calls Try.prog 12 #[.slice (some ⟨wr.heap.size, 0, none⟩) 2 2] W fun e w' => ∃ v, e = .returned v ∧ Row w' W.heap.size v (pre (two X Y) 2) ∧ Below W.heap.size W w' := fun W h => concat_ok (two X Y) (fun i hi => by
            have h1 := FA.out.pos
            have h2 := FA.out.len
            have h3 := FB.out.pos
            have h4 := FB.out.len
            unfold two
            split
            · rw [nints_len]; omega
            · rw [nints_len]; omega) _ 2 W h
          have HCon := Lib.hid hcon
          have HSz := Lib.hid hbe'
          clear hcon hbe'
          go_wp2_with fail
          refine (HCon.out _ ?hLs).mono ?_
          case hLs =>
            intro _
            refine ⟨_, 0, rfl, by simp, fun i hi => ?_⟩
            have hal := (Below.refl wr.heap.size wr).alloc (Nat.le_refl _) (.cells #[.slice (some ⟨gx, 0, none⟩) kx cx, .slice (some ⟨gy, 0, none⟩) ky cy] 22)
            have hlx := ((LX.out.below HBe.out).more HSz.out).below hal
            have hly := ((LY.out.below HBe.out).more HSz.out).below hal
            obtain rfl | rfl : i = 0 ∨ i = 1 := by omega
            · refine ⟨some ⟨gx, 0, none⟩, cx, ?_, ?_⟩
              · rw [show (two X Y 0).length = kx by rw [← HKX.out]; exact nints_len X]
                exact World.cell?_alloc_mark _ #[_, _] 22 (0, 0) 0
              · rw [show (two X Y 0).length = kx by rw [← HKX.out]; exact nints_len X]
                exact (hlx.lz (by simp)).congr fun i _ => (zl_nints X i).symm
            · refine ⟨some ⟨gy, 0, none⟩, cy, ?_, ?_⟩
              · rw [show (two X Y 1).length = ky by rw [← HKY.out]; exact nints_len Y]
                exact World.cell?_alloc_mark _ #[_, _] 22 (0, 0) 1
              · rw [show (two X Y 1).length = ky by rw [← HKY.out]; exact nints_len Y]
                exact (hly.lz (by simp)).congr fun i _ => (zl_nints Y i).symm
          rintro e W10 ⟨v, rfl, hr, hb⟩
          rw [pre_two] at hr
          obtain ⟨gz, cz, rfl, hgz0, hgz, hlz⟩ := row_lb hr (by rw [List.length_append]; have := FA.out.pos; omega)
          have HB10 := Lib.hid ((HBe.out.alloc HSz.out _).trans (Joins.below_le hb (by have := HSz.out; simp; omega)))
          have LZ := Lib.hid (hlz.more (show gz + 1 ≤ W10.heap.size by omega))
          obtain ⟨kz, hkz⟩ : ∃ kz, (X ++ Y).length = kz := ⟨_, rfl⟩
          have HKZ := Lib.hid hkz
          have hkz5 : kz ≤ 10 := by
            have h2 := FA.out.len
            have h4 := FB.out.len
            rw [← hkz, List.length_append]
            omega
          rw [hkz]
          rw [hkz] at LZ
          clear hr hb hgz0 hgz hlz hkz
          go_wp2_with fail
          go_loopw [168] (fun i wl => ∃ d : Nat, d ≤ kz ∧ i = .int .i64 (d : Int) ∧ wl = W10) (fun i _ => kz - (intOf i).toNat)
          case atStart => exact ⟨0, by omega, by first | trivial | rfl, rfl⟩
          case round =>
            obtain ⟨d, hd, rfl, rfl⟩ := hrel
            by_cases hdt : d < kz
            · have hd1 : (d : Int) < (kz : Int) := by omega
              obtain ⟨bz, ofz, ez, hbz, hcz⟩ := LZ.out (by omega)
              injection ez with ez
              injection ez with ez1 ez2
              subst ez1
              subst ez2
              have hcz1 := hcz d hdt
              rw [Nat.zero_add] at hcz1
              obtain ⟨⟨hp0, hp32⟩, hmem⟩ := few_app FA.out FB.out (i := d) (by rw [HKZ.out]; exact hdt)
              unfold zl at hcz1
              obtain ⟨xd, hxd⟩ : ∃ xd, (X ++ Y).getD d 0 = xd := ⟨_, rfl⟩
              rw [hxd] at hcz1 hp0 hp32 hmem
              have hand := and_32 hp32 hj32
              have hnot := andnot_32 hp32 hj32
              rcases HPj.out xd hmem with hz | hz
              · rw [hz] at hand
                clear hnot hcz hbz hxd hmem hp0 hp32
                go_wp2_with fail
                go_roundw
                case rel => exact ⟨d + 1, by omega, by go_num, by first | rfl | trivial⟩
                case measure => simp [intOf]; omega
              · rw [hz] at hand
                rw [hz, Nat.xor_self] at hnot
                have hx1 : ((xd : Int) != 0) = true := by rw [bne_iff_ne]; omega
                have hx2 : ¬ (xd : Int) = 0 := by omega
                clear hcz hbz hxd hmem hp0 hp32
                go_wp2_with fail
                go_roundw
                case rel => exact ⟨d + 1, by omega, by go_num, by first | rfl | trivial⟩
                case measure => simp [intOf]; omega
            · have e : d = kz := by omega
              subst e
              clear hdt
              go_wp2_with fail
              go_roundw
              case rel => exact ⟨c + 1, by omega, by go_num, HB10.out⟩
              case measure => simp [intOf]; omega
        · have e : c = kj := by omega
          subst e
          have HF := Lib.hid (B9.out.trans (Joins.below_le hbe B9.out.size))
          clear hbe hlt
          go_wp2_with fail
          go_ret
          exact ⟨rfl, HF.out⟩

end Go.Proofs.Ytokjdlljhloflaa
