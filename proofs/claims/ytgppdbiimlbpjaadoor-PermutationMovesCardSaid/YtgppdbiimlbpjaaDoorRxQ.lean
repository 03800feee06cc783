/- PermutationMoves. -/
import Derived.Test.YtgppdbiimlbpjaaDoorRxP
import Derived.WalkKit
import Derived.WalkSpells
import Derived.WalkLawsBesides
import Derived.Handy
import Derived.Deep.QuietTactic
import Derived.BigQuiet
import Derived.Outline
import Derived.Laws.BitsAllLaws
import Derived.IntWalk
import Derived.Lib.SmallJoins
import Derived.Lib.Hide
import Derived.Deep.DeepCutAuto
import Derived.LoopTactic
import Derived.Deep.RegionWith
import Derived.Laws.CopyOwn
import Derived.Maps.OwnOps
import Derived.Maps.OwnSet
import Derived.Laws.OwnMore
import Derived.Maps.AppendAt
import Derived.Test.YtgppdbiimlbpjaaDoorShelF
import Derived.RangeFuncNested
import Derived.RangeFuncBound
import Derived.RangeFuncCalls
import Derived.RangeFuncLeaves
import Derived.RangeFuncBox
import Derived.RangeFuncFrom
import Derived.Shelf.Abstract
import Derived.Shelf.RegionOpen
import Derived.OwnWalkIn
import Derived.TacticsInMore
import Derived.LoopNIn
import Derived.LoopIn
import Derived.Test.YtgppdbiimlbpjaaDoorShelS
import Derived.Sort.OwnSortedInts
namespace Go.Proofs.YtgppdbiimlbpjaaDoor
set_option linter.unusedVariables false
set_option linter.unusedSimpArgs false
open Go.RowKit


theorem values_ok (o : Option Addr) (m cap : Nat) (w : World) : Calls Tryd.prog 42 #[.slice o m cap] w fun e w' => ∃ Bn, e = .returned (.func (.func 66) #[] #[.pointer (some ⟨Bn, 0, none⟩)]) ∧ Bn < w'.heap.size ∧ w'.cell? ⟨Bn, 0, none⟩ = some (.slice o m cap) ∧ Below w.heap.size w w' :=
  (callsIn_wide.1 (values_in Fence.wide 3 trivial rfl o m cap w)).mono fun e w' ⟨h1, h2⟩ => ⟨w.heap.size, h1, by rw [h2]; simp, by rw [h2]; exact World.cell?_alloc_mark _ #[_] 22 (0, 0) 0, by rw [h2]; exact (Below.refl _ _).alloc (Nat.le_refl _) _⟩
open Go.Sort in
theorem sort_row (l : List Int) (h1 : 1 ≤ l.length) (hll : l.length ≤ 1000000) (B : Nat) (v : Value) (W : World) (hBW : B ≤ W.heap.size) (h : Row W B v l) :
    Calls Tryd.prog 65 #[v] W fun e w' => e = .returned (.tuple #[]) ∧ Below B W w' ∧ Row w' B v (srt l) := by
  rcases h.2 with ⟨_, h0⟩ | ⟨g, cap, cur, rfl, hB, hb, hn, hm, hs, ht⟩
  · omega
  · have ht2 : cur.toList.take l.length = l.map (Value.int .i64) := by rw [Nat.mul_one] at ht; exact ht
    have hr := Tryd.slices_Sort_int g 0 cap l W (holds_of_blockI hb ht2) (Array.getElem?_eq_some_iff.1 hb).1 (by omega)
    refine hr.mono ?_
    rintro e w' ⟨rfl, q, os, rfl⟩
    refine ⟨rfl, (Below.refl B W).grown (grownBy_sortedI (srt l).toArray) hBW (fun k hk => by injection hk with hk; rw [← hk]; exact hB), ?_⟩
    have h2 := ownsRow_sortedI (n := q) (os := os) (ss := l) (ts := srt l) (srt_len l) hB hb hn hm hs
    unfold Row
    rw [srt_len]
    exact h2
theorem sorted_ok (o : Option Addr) (m cap : Nat) (hm1 : 1 ≤ m) (hm : m ≤ 1000) (f : Nat → Int) (Bn : Nat) (w : World) (hB : Bn < w.heap.size) (hc : w.cell? ⟨Bn, 0, none⟩ = some (.slice o m cap)) (hL : Lz w o m f) :
    Calls Tryd.prog 41 #[.func (.func 66) #[] #[.pointer (some ⟨Bn, 0, none⟩)]] w fun e w' => ∃ o' cap', e = .returned (.slice o' m cap') ∧ Lq w' o' m cap' (fl (srt (lsf m f))) ∧ Below w.heap.size w w' := by
  have hlen : (lsf m f).length = m := by simp [lsf]
  have H := Lib.hid (collect_ok o m cap hm f Bn w hB hc hL)
  have HLen := Lib.hid hlen
  clear hc hL hlen
  go_enter Tryd.func41, Tryd.ntmps41
  go_wp2_with fail
  refine H.out.mono ?_
  rintro e w1 ⟨v, rfl, hr, hb⟩
  have HB := Lib.hid hb
  have HS := Lib.hid (sort_row (lsf m f) (by rw [HLen.out]; exact hm1) (by rw [HLen.out]; omega) w.heap.size v w1 hb.size hr)
  clear hr hb
  go_wp2_with fail
  refine HS.out.mono ?_
  rintro e w2 ⟨rfl, hb2, hr2⟩
  have HB2 := Lib.hid (HB.out.trans hb2)
  obtain ⟨o', cap', rfl, hq⟩ := hr2.shapeQ
  rw [srt_len, HLen.out] at hq
  rw [srt_len, HLen.out]
  have HQ := Lib.hid hq
  clear hr2 hb2 hq
  go_wp2_with fail
  go_ret
  exact ⟨_, _, rfl, HQ.out, HB2.out⟩
set_option maxRecDepth 100000 in
set_option maxHeartbeats 8000000 in
theorem moves_ok (n nb : Nat) (x y : Nat → Int) (c : Nat) (hc : c < 256) (o p : Option Addr) (cap cap' : Nat) (w : World) (hL : Lq w o n cap x) (hL' : Lq w p nb cap' y) : Calls Tryd.prog 9 #[.slice o n cap, .slice p nb cap', .int .u8 (c : Int)] w fun e w' => e = .returned (.bool true) ∧ Below w.heap.size w w' := by
  have hx : Below w.heap.size w (w.alloc (.cells #[.slice o n cap, .slice p nb cap'] 22)) := (Below.refl _ _).alloc (Nat.le_refl _) _
  have HR := Lib.hid (right_any 2 (by decide) (by decide) (fun c => if c = 0 then o else p) (fun c => if c = 0 then n else nb) (fun c => if c = 0 then cap else cap') (fun c => if c = 0 then x else y) w.heap.size 2 (w.alloc (.cells #[.slice o n cap, .slice p nb cap'] 22)) (by simp) (by
    intro c hc
    obtain rfl | rfl : c = 0 ∨ c = 1 := by omega
    · exact World.cell?_alloc_mark _ _ _ (0, 0) 0
    · exact World.cell?_alloc_mark _ _ _ (0, 0) 1) (by
    intro c hc
    obtain rfl | rfl : c = 0 ∨ c = 1 := by omega
    · exact hL.1.below hx
    · exact hL'.1.below hx))
  have La := Lib.hid (hL.below hx)
  have Lb := Lib.hid (hL'.below hx)
  have B := Lib.hid hx
  have hc0 : (0 : Int) ≤ (c : Int) := by omega
  have hc1 : (c : Int) ≤ 255 := by omega
  clear hL hL' hx
  go_enter Tryd.func9, Tryd.ntmps9
  go_wp2_with fail
  refine HR.out.mono ?_
  rintro e W0 ⟨⟨r, rfl, hr⟩, hb⟩
  replace La := Lib.hid (La.out.below hb)
  replace Lb := Lib.hid (Lb.out.below hb)
  replace B := Lib.hid (B.out.trans (Joins.below_le hb B.out.size))
  clear hb HR
  cases r with
  | false =>
    clear hr La Lb
    go_wp2_with fail
    refine (awake_ok _).mono ?_
    rintro e W1 ⟨rfl, hb⟩
    replace B := Lib.hid (B.out.trans (Joins.below_le hb B.out.size))
    clear hb 
    go_wp2_with fail
    go_ret
    exact ⟨rfl, B.out⟩
  | true =>
    have hr := hr rfl
    have r0 := (hr 0 (by omega)).1
    have r1 := hr 1 (by omega)
    simp at r0 r1
    clear hr
    obtain ⟨r1, e1⟩ := r1
    replace e1 := e1.symm
    subst e1
    obtain ⟨a0, ga0, ea⟩ := good_of r0
    obtain ⟨b0, gb0, eb⟩ := good_of r1
    have hn1 := ga0.lo
    have h5 := ga0.hi
    have ma := lo_mem ga0
    have mb := lo_mem gb0
    have ga := (pl_good hn1 h5 ma).2
    have gb := (pl_good hn1 h5 mb).2
    replace La := Lib.hid (La.out.as (a := fun_ (lo n a0)) fun i hi => by rw [ea i hi]; unfold zf; rw [lo_at hi])
    replace Lb := Lib.hid (Lb.out.as (a := fun_ (lo n b0)) fun i hi => by rw [eb i hi]; unfold zf; rw [lo_at hi])
    obtain ⟨S, hSd⟩ : ∃ S, c % 2 ^ n = S := ⟨_, rfl⟩
    have hS : S < 2 ^ n := by rw [← hSd]; exact Nat.mod_lt _ (Nat.two_pow_pos n)
    have h32 : 2 ^ n ≤ 32 := Nat.pow_le_pow_right (n := 2) (by omega) h5
    have hS32 : S < 32 := by omega
    obtain ⟨vf, hvf⟩ : ∃ vf : Nat → Int, vf = fun i => ((c / 2 ^ i % 4 : Nat) : Int) := ⟨_, rfl⟩
    have HSct := Lib.hid (fun i hi => sct_comp h5 ma mb hn1 vf i hi)
    have hsrt : srt (lsf n (sct (fun_ (lo n a0)) (sct (fun_ (lo n b0)) vf n) n)) = srt (lsf n vf) := srt_perm ((sct_perm hn1 h5 ma _).trans (sct_perm hn1 h5 mb _))
    have HSrt := Lib.hid hsrt
    have hcomp := img_comp (a := fun_ (lo n a0)) gb.perm.lt S
    have hX2 := img_bound gb.perm.lt S
    have hYb := img_bound (good_comp ga gb).perm.lt S
    have hpop : pop (img (fun i => fun_ (lo n a0) (fun_ (lo n b0) i)) S n) = pop S := by
      have hm := cmp2_mem hn1 h5 ma mb
      have hf : pop (img (fun_ (cmp2 (lo n a0) (lo n b0))) S n) = pop S := pop_fin ⟨n, by omega⟩ _ hm S hS
      have e : img (fun_ (cmp2 (lo n a0) (lo n b0))) S n = img (fun i => fun_ (lo n a0) (fun_ (lo n b0) i)) S n := by
        apply Nat.eq_of_testBit_eq
        intro q
        rw [img_bit, img_bit, decide_eq_decide]
        constructor
        · rintro ⟨p, hp, h1, h2⟩
          rw [cmp2_at (by rw [lo_len]; exact hp)] at h2
          exact ⟨p, hp, h1, h2⟩
        · rintro ⟨p, hp, h1, h2⟩
          exact ⟨p, hp, h1, by rw [cmp2_at (by rw [lo_len]; exact hp)]; exact h2⟩
      rwa [e] at hf
    clear ea eb r0 r1 ma mb hsrt
    generalize fun_ (lo n a0) = a at *
    generalize fun_ (lo n b0) = b at *
    clear ga0 gb0
    obtain ⟨X, hX⟩ : ∃ X, img b S n = X := ⟨_, rfl⟩
    rw [hX] at hcomp hX2
    obtain ⟨Y, hY2⟩ : ∃ Y, img (fun i => a (b i)) S n = Y := ⟨_, rfl⟩
    rw [hY2] at hcomp hYb hpop
    have hY : img a X n = Y := hcomp
    have hY32 : Y < 32 := by omega
    obtain ⟨pp, hpS⟩ : ∃ q, pop S = q := ⟨_, rfl⟩
    have hpY : pop Y = pp := hpop.trans hpS
    have HX := Lib.hid hX
    have HY := Lib.hid hY
    have HY2 := Lib.hid hY2
    have HpS := Lib.hid hpS
    have HpY := Lib.hid hpY
    obtain ⟨Q, hQ⟩ : ∃ Q, 2 ^ n = Q := ⟨_, rfl⟩
    have q1 : wrap64 ((2 : Int) ^ n) = (Q : Int) := by
      have e : ((2 : Int) ^ n) = ((2 ^ n : Nat) : Int) := by simp
      rw [e, hQ]
      exact IntWalk.wrap64_in _ (by omega)
    have q2 : (c : Int) % (Q : Int) = (S : Int) := by rw [← hSd, hQ, Int.natCast_emod]
    have hQ0 : 0 < Q := by rw [← hQ]; exact Nat.two_pow_pos n
    have q3 : ((Q : Int) == 0) = false := by rw [beq_eq_false_iff_ne]; exact Int.natCast_ne_zero.2 (Nat.ne_of_gt hQ0)
    have q4 : (Q == 0) = false := by rw [beq_eq_false_iff_ne]; exact Nat.ne_of_gt hQ0
    have HS := Lib.hid hS
    have HX2 := Lib.hid hX2
    have HVf := Lib.hid hvf
    clear hX hY hY2 hcomp hpS hpY hpop hQ hSd hS hX2 hvf h32 hYb
    go_wp2_with fail
    try rw [q1]
    try rw [q2]
    clear q1 q2
    have hWb : ∃ Wb : World, Wb = W0 := ⟨_, rfl⟩
    obtain ⟨Wb, hWb⟩ := hWb
    rw [← hWb] at La Lb B ⊢
    clear hWb
    go_loopw [8, 39] (fun v j wr => ∃ i : Nat, i ≤ n ∧ j = .int .i64 (i : Int) ∧ Row wr Wb.heap.size v (lsf i vf) ∧ Below Wb.heap.size Wb wr) (fun _ j _ => n - (intOf j).toNat)
    case atStart => exact ⟨0, by omega, by first | trivial | rfl, World.ownsRow_nil _ _ _ _, Below.refl _ _⟩
    case round =>
      obtain ⟨i, hi, rfl, hrw, hbe⟩ := hrel
      have HRw := Lib.hid hrw
      have HBe := Lib.hid hbe
      clear hrw hbe
      by_cases hlt : i < n
      · have hi1 : (i : Int) < (n : Int) := by omega
        have hi5 : i < 5 := by omega
        have hm : (lsf i vf).length = i := by simp [lsf]
        have han := and3_fin ⟨c, hc⟩ ⟨i, hi5⟩
        simp only at han
        have hv := congrFun HVf.out i
        obtain ⟨z, hz⟩ : ∃ z, vf i = z := ⟨_, rfl⟩
        rw [← hv, hz] at han
        have HZ := Lib.hid hz
        obtain ⟨ov, cv, rfl, _⟩ := HRw.out.shape' hm
        have HM := Lib.hid hm
        clear hm hv hz
        go_wp2_with (at_builtin; refine app_int _ rfl _ _ rfl Wb.heap.size _ _ rfl (HRw.out.alloc _) wr.heap.size z rfl (World.cell?_alloc_mark _ #[_] 3 (0, 0) 0) (by rw [HM.out]; omega) (by have := HBe.out.size; simp; omega) ?_; intro gg cv2 w2 hr2 hbb2 hgg; rw [HM.out] at hr2 ⊢; have HR2 := Lib.hid hr2; have HBB := Lib.hid hbb2; clear hr2 hbb2)
        go_roundw
        case rel => exact ⟨i + 1, by omega, by go_num, by rw [← lsf_snoc, HZ.out]; exact HR2.out, (HBe.out.alloc HBe.out.size _).trans HBB.out⟩
        case measure => simp [intOf]; omega
      · have e : n = i := by omega
        subst e
        obtain ⟨ov, cv, rfl, hq⟩ := row_q HRw.out
        have Lv := Lib.hid hq
        replace La := Lib.hid (La.out.below HBe.out)
        replace Lb := Lib.hid (Lb.out.below HBe.out)
        replace B := Lib.hid (B.out.trans (Joins.below_le HBe.out B.out.size))
        have hX := HX.out
        have hY := HY.out
        have hY2 := HY2.out
        have hpS := HpS.out
        have hpY := HpY.out
        have hS := HS.out
        have hX2 := HX2.out
        clear hq HRw HBe hlt
        go_wp2_with fail
        refine (comp_good n a b ga gb _ _ _ _ _ La.out Lb.out).mono ?_
        rintro e W1 ⟨oAB, pAB, rfl, hl, hb⟩
        replace La := Lib.hid (La.out.below hb)
        replace Lb := Lib.hid (Lb.out.below hb)
        replace Lv := Lib.hid (Lv.out.below hb)
        replace B := Lib.hid (B.out.trans (Joins.below_le hb B.out.size))
        have AB := Lib.hid hl
        clear hb hl
        go_wp2_with fail
        refine (set_good n b gb S hS _ _ _ Lb.out).mono ?_
        rw [hX]
        rintro e W2 ⟨rfl, hb⟩
        replace La := Lib.hid (La.out.below hb)
        replace Lb := Lib.hid (Lb.out.below hb)
        replace Lv := Lib.hid (Lv.out.below hb)
        replace AB := Lib.hid (AB.out.below hb)
        replace B := Lib.hid (B.out.trans (Joins.below_le hb B.out.size))
        clear hb 
        go_wp2_with fail
        refine (set_good n a ga X hX2 _ _ _ La.out).mono ?_
        rw [hY]
        rintro e W3 ⟨rfl, hb⟩
        replace La := Lib.hid (La.out.below hb)
        replace Lb := Lib.hid (Lb.out.below hb)
        replace Lv := Lib.hid (Lv.out.below hb)
        replace AB := Lib.hid (AB.out.below hb)
        replace B := Lib.hid (B.out.trans (Joins.below_le hb B.out.size))
        clear hb 
        go_wp2_with fail
        refine (set_good n _ (good_comp ga gb) S hS _ _ _ AB.out).mono ?_
        rw [hY2]
        rintro e W4 ⟨rfl, hb⟩
        replace La := Lib.hid (La.out.below hb)
        replace Lb := Lib.hid (Lb.out.below hb)
        replace Lv := Lib.hid (Lv.out.below hb)
        replace AB := Lib.hid (AB.out.below hb)
        replace B := Lib.hid (B.out.trans (Joins.below_le hb B.out.size))
        clear hb 
        go_wp2_with fail
        refine (vecr_good n b gb vf _ _ _ _ _ Lb.out Lv.out.1).mono ?_
        rintro e W5 ⟨oM, pM, rfl, hl, hb⟩
        replace La := Lib.hid (La.out.below hb)
        replace Lb := Lib.hid (Lb.out.below hb)
        replace Lv := Lib.hid (Lv.out.below hb)
        replace AB := Lib.hid (AB.out.below hb)
        replace B := Lib.hid (B.out.trans (Joins.below_le hb B.out.size))
        have MM := Lib.hid hl
        clear hb hl
        go_wp2_with fail
        refine (vecr_good n a ga _ _ _ _ _ _ La.out MM.out.1).mono ?_
        rintro e W6 ⟨oN, pN, rfl, hl, hb⟩
        replace La := Lib.hid (La.out.below hb)
        replace Lb := Lib.hid (Lb.out.below hb)
        replace Lv := Lib.hid (Lv.out.below hb)
        replace AB := Lib.hid (AB.out.below hb)
        replace MM := Lib.hid (MM.out.below hb)
        replace B := Lib.hid (B.out.trans (Joins.below_le hb B.out.size))
        have NN := Lib.hid hl
        clear hb hl
        go_wp2_with fail
        refine (vecr_good n _ (good_comp ga gb) vf _ _ _ _ _ AB.out Lv.out.1).mono ?_
        rintro e W7 ⟨oO, pO, rfl, hl, hb⟩
        replace La := Lib.hid (La.out.below hb)
        replace Lb := Lib.hid (Lb.out.below hb)
        replace Lv := Lib.hid (Lv.out.below hb)
        replace AB := Lib.hid (AB.out.below hb)
        replace MM := Lib.hid (MM.out.below hb)
        replace NN := Lib.hid (NN.out.below hb)
        replace B := Lib.hid (B.out.trans (Joins.below_le hb B.out.size))
        have OO := Lib.hid hl
        clear hb hl
        replace OO := Lib.hid (OO.out.congr fun i hi => (HSct.out i hi).symm)
        clear La Lb AB MM
        go_wp2_with fail
        refine (values_ok _ n _ _).mono ?_
        rintro e W8 ⟨Bn, rfl, hBn, hcn, hb⟩
        replace Lv := Lib.hid (Lv.out.below hb)
        replace NN := Lib.hid (NN.out.below hb)
        replace OO := Lib.hid (OO.out.below hb)
        replace B := Lib.hid (B.out.trans (Joins.below_le hb B.out.size))
        have HBn := Lib.hid hBn
        have HCn := Lib.hid hcn
        clear hb hBn hcn
        go_wp2_with fail
        refine (sorted_ok _ n _ hn1 (by omega) (sct a (sct b vf n) n) Bn _ HBn.out HCn.out NN.out.1).mono ?_
        rintro e W9 ⟨oSR, pSR, rfl, hl, hb⟩
        replace Lv := Lib.hid (Lv.out.below hb)
        replace NN := Lib.hid (NN.out.below hb)
        replace OO := Lib.hid (OO.out.below hb)
        replace B := Lib.hid (B.out.trans (Joins.below_le hb B.out.size))
        have SR := Lib.hid hl
        clear hb hl
        clear HBn HCn
        go_wp2_with fail
        refine (awake_ok _).mono ?_
        rintro e W10 ⟨rfl, hb⟩
        replace Lv := Lib.hid (Lv.out.below hb)
        replace NN := Lib.hid (NN.out.below hb)
        replace OO := Lib.hid (OO.out.below hb)
        replace SR := Lib.hid (SR.out.below hb)
        replace B := Lib.hid (B.out.trans (Joins.below_le hb B.out.size))
        clear hb 
        go_wp2_with fail
        refine (equal_any n n (by omega) (sct a (sct b vf n) n) (sct a (sct b vf n) n) _ _ _ _ _ NN.out.1 OO.out.1).mono ?_
        rw [eqb_self (fun _ _ => rfl)]
        rintro e W11 ⟨rfl, hb⟩
        replace Lv := Lib.hid (Lv.out.below hb)
        replace NN := Lib.hid (NN.out.below hb)
        replace OO := Lib.hid (OO.out.below hb)
        replace SR := Lib.hid (SR.out.below hb)
        replace B := Lib.hid (B.out.trans (Joins.below_le hb B.out.size))
        clear hb 
        clear NN OO
        go_wp2_with fail
        refine (ones_any Y hY32 _).mono ?_
        rw [hpY]
        rintro e w' ⟨rfl, rfl⟩
        go_wp2_with fail
        refine (ones_any S hS32 _).mono ?_
        rw [hpS]
        rintro e w' ⟨rfl, rfl⟩
        go_wp2_with fail
        refine (values_ok _ n _ _).mono ?_
        rintro e W12 ⟨Bn, rfl, hBn, hcn, hb⟩
        replace Lv := Lib.hid (Lv.out.below hb)
        replace SR := Lib.hid (SR.out.below hb)
        replace B := Lib.hid (B.out.trans (Joins.below_le hb B.out.size))
        have HBn := Lib.hid hBn
        have HCn := Lib.hid hcn
        clear hb hBn hcn
        go_wp2_with fail
        refine (sorted_ok _ n _ hn1 (by omega) (vf) Bn _ HBn.out HCn.out Lv.out.1).mono ?_
        rintro e W13 ⟨oSV, pSV, rfl, hl, hb⟩
        replace Lv := Lib.hid (Lv.out.below hb)
        replace SR := Lib.hid (SR.out.below hb)
        replace B := Lib.hid (B.out.trans (Joins.below_le hb B.out.size))
        have SV := Lib.hid hl
        clear hb hl
        clear HBn HCn
        go_wp2_with fail
        refine (equal_any n n (by omega) _ _ _ _ _ _ _ SR.out.1 SV.out.1).mono ?_
        rw [eqb_self (fun _ _ => HSrt.out ▸ rfl)]
        rintro e W14 ⟨rfl, hb⟩
        replace Lv := Lib.hid (Lv.out.below hb)
        replace SR := Lib.hid (SR.out.below hb)
        replace SV := Lib.hid (SV.out.below hb)
        replace B := Lib.hid (B.out.trans (Joins.below_le hb B.out.size))
        clear hb 
        clear SR SV Lv
        go_wp2_with fail
        go_ret
        exact ⟨rfl, B.out⟩
theorem moves_int (n nb : Nat) (x y : Nat → Int) (z : Int) (hb : 0 ≤ z ∧ z ≤ 255) (o p : Option Addr) (cap cap' : Nat) (w : World) (hL : Lq w o n cap x) (hL' : Lq w p nb cap' y) : Calls Tryd.prog 9 #[.slice o n cap, .slice p nb cap', .int .u8 z] w fun e w' => e = .returned (.bool true) ∧ Below w.heap.size w w' := by
  obtain ⟨c, rfl⟩ := Int.eq_ofNat_of_zero_le hb.1
  exact moves_ok n nb x y c (by omega) o p cap cap' w hL hL'

end Go.Proofs.YtgppdbiimlbpjaaDoor
