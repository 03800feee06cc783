/- PermutationGroup. -/
import Derived.Test.YtgppdbiimlbpjaaDoorRwU
import Derived.WalkKit
import Derived.WalkSpells
import Derived.WalkLawsBesides
import Derived.Handy
import Derived.Deep.QuietTactic
import Derived.BigQuiet
import Derived.Outline
import Derived.Laws.BitsAllLaws
import Derived.IntWalk
import Derived.Lib.SmallJoins
import Derived.Lib.Hide
import Derived.Deep.DeepCutAuto
import Derived.LoopTactic
import Derived.Deep.RegionWith
import Derived.Laws.CopyOwn
import Derived.Maps.OwnOps
import Derived.Maps.OwnSet
import Derived.Laws.OwnMore
import Derived.Maps.AppendAt
import Derived.Test.YtgppdbiimlbpjaaDoorShelF
import Derived.RangeFuncNested
import Derived.RangeFuncBound
import Derived.RangeFuncCalls
import Derived.RangeFuncLeaves
import Derived.RangeFuncBox
import Derived.RangeFuncFrom
import Derived.Shelf.Abstract
import Derived.Shelf.RegionOpen
import Derived.OwnWalkIn
import Derived.TacticsInMore
import Derived.LoopNIn
import Derived.LoopIn
namespace Go.Proofs.YtgppdbiimlbpjaaDoor
set_option linter.unusedVariables false
set_option linter.unusedSimpArgs false
open Go.RowKit

set_option maxHeartbeats 1000000 in
theorem right_any (K : Nat) (hK : K ≤ 10) (h0 : 0 < K) (oc : Nat → Option Addr) (nc cc : Nat → Nat) (xc : Nat → Nat → Int) (b cap : Nat) (w : World) (hb : b < w.heap.size) (hcell : ∀ c, c < K → w.cell? ⟨b, c, none⟩ = some (.slice (oc c) (nc c) (cc c))) (hrow : ∀ c, c < K → Lz w (oc c) (nc c) (xc c)) :
    Calls Tryd.prog 40 #[.slice (some ⟨b, 0, none⟩) K cap] w fun e w' => (∃ r, e = .returned (.bool r) ∧ (r = true → ∀ c, c < K → pcode (nc c) (xc c) = 0 ∧ nc c = nc 0)) ∧ Below w.heap.size w w' := by
  have HC := Lib.hid hcell
  have HR := Lib.hid hrow
  clear hcell hrow
  go_enter Tryd.func40, Tryd.ntmps40
  go_wp2_with fail
  go_loopw [7] (fun j wr => ∃ i : Nat, i ≤ K ∧ j = .int .i64 (i : Int) ∧ (∀ c, c < i → pcode (nc c) (xc c) = 0 ∧ nc c = nc 0) ∧ Below w.heap.size w wr) (fun j _ => K - (intOf j).toNat)
  case atStart => exact ⟨0, by omega, rfl, fun c h => absurd h (Nat.not_lt_zero _), Below.refl _ _⟩
  case round =>
    obtain ⟨i, hi, rfl, hall, hbe⟩ := hrel
    have HAll := Lib.hid hall
    have HBe := Lib.hid hbe
    by_cases hlt : i < K
    · have c1 := (hbe.cell (p := ⟨b, i, none⟩) hb).trans (HC.out i hlt)
      have HCk := Lib.hid (rcheck_any (nc i) (xc i) (oc i) (cc i) wr ((HR.out i hlt).below hbe))
      obtain ⟨p, hp⟩ : ∃ p, pcode (nc i) (xc i) = p := ⟨_, rfl⟩
      rw [hp] at HCk
      obtain ⟨o1, ho1⟩ : ∃ x, oc i = x := ⟨_, rfl⟩
      obtain ⟨n1, hn1⟩ : ∃ x, nc i = x := ⟨_, rfl⟩
      obtain ⟨k1, hk1⟩ : ∃ x, cc i = x := ⟨_, rfl⟩
      rw [ho1, hn1, hk1] at c1 HCk
      have HP := Lib.hid hp
      have HN1 := Lib.hid hn1
      have hi1 : (i : Int) < (K : Int) := by omega
      have hK0 : (0 : Int) < (K : Int) := by omega
      clear hall hbe hp ho1 hn1 hk1
      go_wp2_with fail
      refine HCk.out.mono ?_
      rintro e w1 ⟨rfl, hb1⟩
      have HB1 := Lib.hid (HBe.out.trans (Joins.below_le hb1 HBe.out.size))
      have c0 := (HB1.out.cell (p := ⟨b, 0, none⟩) hb).trans (HC.out 0 h0)
      obtain ⟨o0, ho0⟩ : ∃ x, oc 0 = x := ⟨_, rfl⟩
      obtain ⟨n0, hn0⟩ : ∃ x, nc 0 = x := ⟨_, rfl⟩
      obtain ⟨k0, hk0⟩ : ∃ x, cc 0 = x := ⟨_, rfl⟩
      rw [ho0, hn0, hk0] at c0
      have HN0 := Lib.hid hn0
      clear hb1 ho0 hn0 hk0 c1
      by_cases hp0 : p = 0
      · subst hp0
        by_cases hnn : n1 = n0
        · subst hnn
          go_wp2_with fail
          go_roundw
          case rel =>
            refine ⟨i + 1, by omega, by go_num, fun c hc => ?_, HB1.out⟩
            by_cases e : c = i
            · subst e; exact ⟨HP.out, by rw [HN1.out, HN0.out]⟩
            · exact HAll.out c (by omega)
          case measure => simp [intOf]; omega
        · have h1 : (n1 == n0) = false := by simpa using hnn
          have h2 : ((n1 : Int) != (n0 : Int)) = true := by rw [bne_iff_ne]; omega
          clear hnn
          go_wp2_with fail
          go_ret
          exact ⟨⟨false, rfl, fun h => by cases h⟩, HB1.out⟩
      · have h1 : (p != 0) = true := by rw [bne_iff_ne]; exact hp0
        have h2 : (p == 0) = false := by rw [beq_eq_false_iff_ne]; exact hp0
        clear hp0
        go_wp2_with fail
        go_ret
        exact ⟨⟨false, rfl, fun h => by cases h⟩, HB1.out⟩
    · have e : i = K := by omega
      subst e
      clear hall hbe
      go_wp2_with fail
      go_ret
      exact ⟨⟨true, rfl, fun _ => HAll.out⟩, HBe.out⟩

set_option maxRecDepth 100000 in
set_option maxHeartbeats 4000000 in
theorem group_ok (n nb nc : Nat) (x y z : Nat → Int) (o p q : Option Addr) (cap cap' cap'' : Nat) (w : World) (hL : Lq w o n cap x) (hL' : Lq w p nb cap' y) (hL'' : Lq w q nc cap'' z) : Calls Tryd.prog 8 #[.slice o n cap, .slice p nb cap', .slice q nc cap''] w fun e w' => e = .returned (.bool true) ∧ Below w.heap.size w w' := by
  have hx : Below w.heap.size w (w.alloc (.cells #[.slice o n cap, .slice p nb cap', .slice q nc cap''] 22)) := (Below.refl _ _).alloc (Nat.le_refl _) _
  have HR := Lib.hid (right_any 3 (by decide) (by decide) (fun c => if c = 0 then o else if c = 1 then p else q) (fun c => if c = 0 then n else if c = 1 then nb else nc) (fun c => if c = 0 then cap else if c = 1 then cap' else cap'') (fun c => if c = 0 then x else if c = 1 then y else z) w.heap.size 3 (w.alloc (.cells #[.slice o n cap, .slice p nb cap', .slice q nc cap''] 22)) (by simp) (by
    intro c hc
    obtain rfl | rfl | rfl : c = 0 ∨ c = 1 ∨ c = 2 := by omega
    · exact World.cell?_alloc_mark _ _ _ (0, 0) 0
    · exact World.cell?_alloc_mark _ _ _ (0, 0) 1
    · exact World.cell?_alloc_mark _ _ _ (0, 0) 2) (by
    intro c hc
    obtain rfl | rfl | rfl : c = 0 ∨ c = 1 ∨ c = 2 := by omega
    · exact hL.1.below hx
    · exact hL'.1.below hx
    · exact hL''.1.below hx))
  have La := Lib.hid (hL.below hx)
  have Lb := Lib.hid (hL'.below hx)
  have Lc := Lib.hid (hL''.below hx)
  have B := Lib.hid hx
  clear hL hL' hL'' hx
  go_enter Tryd.func8, Tryd.ntmps8
  go_wp2_with fail
  refine HR.out.mono ?_
  rintro e W0 ⟨⟨r, rfl, hr⟩, hb⟩
  replace La := Lib.hid (La.out.below hb)
  replace Lb := Lib.hid (Lb.out.below hb)
  replace Lc := Lib.hid (Lc.out.below hb)
  replace B := Lib.hid (B.out.trans (Joins.below_le hb B.out.size))
  clear hb HR
  cases r with
  | false =>
    clear hr La Lb Lc
    go_wp2_with fail
    refine (awake_ok _).mono ?_
    rintro e W1 ⟨rfl, hb⟩
    replace B := Lib.hid (B.out.trans (Joins.below_le hb B.out.size))
    clear hb 
    go_wp2_with fail
    go_ret
    exact ⟨rfl, B.out⟩
  | true =>
    have hr := hr rfl
    have r0 := (hr 0 (by omega)).1
    have r1 := hr 1 (by omega)
    have r2 := hr 2 (by omega)
    simp at r0 r1 r2
    clear hr
    obtain ⟨r1, e1⟩ := r1
    obtain ⟨r2, e2⟩ := r2
    replace e1 := e1.symm
    replace e2 := e2.symm
    subst e1
    subst e2
    obtain ⟨a0, ga0, ea⟩ := good_of r0
    obtain ⟨b0, gb0, eb⟩ := good_of r1
    obtain ⟨c0, gc0, ec⟩ := good_of r2
    have h1 := ga0.lo
    have h5 := ga0.hi
    have hn1 : n ≤ 1000000 := by omega
    have ma := lo_mem ga0
    have mb := lo_mem gb0
    have mc := lo_mem gc0
    have ga := (pl_good h1 h5 ma).2
    have gb := (pl_good h1 h5 mb).2
    have gc := (pl_good h1 h5 mc).2
    have gI := good_id h1 h5
    have hbk := bk_of h5 ma
    have gk : Good n (bk n (fun_ (lo n a0))) := ⟨h1, h5, fun i hi => (hbk i hi).2.1, fun i j hi hj e => by rw [← (hbk i hi).2.2.2, ← (hbk j hj).2.2.2, e]⟩
    have huv := odd_mul h5 ma mb
    replace La := Lib.hid (La.out.as (a := fun_ (lo n a0)) fun i hi => by rw [ea i hi]; unfold zf; rw [lo_at hi])
    replace Lb := Lib.hid (Lb.out.as (a := fun_ (lo n b0)) fun i hi => by rw [eb i hi]; unfold zf; rw [lo_at hi])
    replace Lc := Lib.hid (Lc.out.as (a := fun_ (lo n c0)) fun i hi => by rw [ec i hi]; unfold zf; rw [lo_at hi])
    have HBk := Lib.hid hbk
    clear ea eb ec r0 r1 r2 hbk ma mb mc
    generalize fun_ (lo n a0) = a at *
    generalize fun_ (lo n b0) = b at *
    generalize fun_ (lo n c0) = c at *
    obtain ⟨u, hu⟩ : ∃ u, oall n a n = u := ⟨_, rfl⟩
    obtain ⟨v, hv⟩ : ∃ u, oall n b n = u := ⟨_, rfl⟩
    rw [hu, hv] at huv
    clear h1 h5 ga0 gb0 gc0
    have h1 := ga.lo
    have h5 := ga.hi
    go_wp2_with fail
    refine (comp_good n a b ga gb _ _ _ _ _ La.out Lb.out).mono ?_
    rintro e W1 ⟨oAB, pAB, rfl, hl, hb⟩
    replace La := Lib.hid (La.out.below hb)
    replace Lb := Lib.hid (Lb.out.below hb)
    replace Lc := Lib.hid (Lc.out.below hb)
    replace B := Lib.hid (B.out.trans (Joins.below_le hb B.out.size))
    have AB := Lib.hid hl
    clear hb hl
    go_wp2_with fail
    refine (comp_good n b c gb gc _ _ _ _ _ Lb.out Lc.out).mono ?_
    rintro e W2 ⟨oBC, pBC, rfl, hl, hb⟩
    replace La := Lib.hid (La.out.below hb)
    replace Lb := Lib.hid (Lb.out.below hb)
    replace Lc := Lib.hid (Lc.out.below hb)
    replace AB := Lib.hid (AB.out.below hb)
    replace B := Lib.hid (B.out.trans (Joins.below_le hb B.out.size))
    have BC := Lib.hid hl
    clear hb hl
    go_wp2_with fail
    refine (comp_good n _ c (good_comp ga gb) gc _ _ _ _ _ AB.out Lc.out).mono ?_
    rintro e W3 ⟨oX, pX, rfl, hl, hb⟩
    replace La := Lib.hid (La.out.below hb)
    replace Lb := Lib.hid (Lb.out.below hb)
    replace Lc := Lib.hid (Lc.out.below hb)
    replace AB := Lib.hid (AB.out.below hb)
    replace BC := Lib.hid (BC.out.below hb)
    replace B := Lib.hid (B.out.trans (Joins.below_le hb B.out.size))
    have X := Lib.hid hl
    clear hb hl
    go_wp2_with fail
    refine (comp_good n a _ ga (good_comp gb gc) _ _ _ _ _ La.out BC.out).mono ?_
    rintro e W4 ⟨oY, pY, rfl, hl, hb⟩
    replace La := Lib.hid (La.out.below hb)
    replace Lb := Lib.hid (Lb.out.below hb)
    replace Lc := Lib.hid (Lc.out.below hb)
    replace AB := Lib.hid (AB.out.below hb)
    replace BC := Lib.hid (BC.out.below hb)
    replace X := Lib.hid (X.out.below hb)
    replace B := Lib.hid (B.out.trans (Joins.below_le hb B.out.size))
    have Y := Lib.hid hl
    clear hb hl
    go_wp2_with fail
    refine (ident_good n h1 h5 _).mono ?_
    rintro e W5 ⟨oON, pON, rfl, hl, hb⟩
    replace La := Lib.hid (La.out.below hb)
    replace Lb := Lib.hid (Lb.out.below hb)
    replace Lc := Lib.hid (Lc.out.below hb)
    replace AB := Lib.hid (AB.out.below hb)
    replace BC := Lib.hid (BC.out.below hb)
    replace X := Lib.hid (X.out.below hb)
    replace Y := Lib.hid (Y.out.below hb)
    replace B := Lib.hid (B.out.trans (Joins.below_le hb B.out.size))
    have ON := Lib.hid hl
    clear hb hl
    go_wp2_with fail
    refine (inv_good n a ga _ _ _ La.out).mono ?_
    rintro e W6 ⟨oBK, pBK, rfl, hl, hb⟩
    replace La := Lib.hid (La.out.below hb)
    replace Lb := Lib.hid (Lb.out.below hb)
    replace Lc := Lib.hid (Lc.out.below hb)
    replace AB := Lib.hid (AB.out.below hb)
    replace BC := Lib.hid (BC.out.below hb)
    replace X := Lib.hid (X.out.below hb)
    replace Y := Lib.hid (Y.out.below hb)
    replace ON := Lib.hid (ON.out.below hb)
    replace B := Lib.hid (B.out.trans (Joins.below_le hb B.out.size))
    have BK := Lib.hid hl
    clear hb hl
    replace BK := Lib.hid (BK.out.congr fun i hi => (HBk.out i hi).1)
    go_wp2_with fail
    refine (comp_good n _ a gk ga _ _ _ _ _ BK.out La.out).mono ?_
    rintro e W7 ⟨oLE, pLE, rfl, hl, hb⟩
    replace La := Lib.hid (La.out.below hb)
    replace Lb := Lib.hid (Lb.out.below hb)
    replace Lc := Lib.hid (Lc.out.below hb)
    replace AB := Lib.hid (AB.out.below hb)
    replace BC := Lib.hid (BC.out.below hb)
    replace X := Lib.hid (X.out.below hb)
    replace Y := Lib.hid (Y.out.below hb)
    replace ON := Lib.hid (ON.out.below hb)
    replace BK := Lib.hid (BK.out.below hb)
    replace B := Lib.hid (B.out.trans (Joins.below_le hb B.out.size))
    have LE := Lib.hid hl
    clear hb hl
    replace LE := Lib.hid (LE.out.congr (g := zf fun i => i) fun i hi => by show ((bk n a (a i) : Nat) : Int) = ((i : Nat) : Int); rw [(HBk.out i hi).2.2.1])
    go_wp2_with fail
    refine (comp_good n a _ ga gk _ _ _ _ _ La.out BK.out).mono ?_
    rintro e W8 ⟨oMM, pMM, rfl, hl, hb⟩
    replace La := Lib.hid (La.out.below hb)
    replace Lb := Lib.hid (Lb.out.below hb)
    replace Lc := Lib.hid (Lc.out.below hb)
    replace AB := Lib.hid (AB.out.below hb)
    replace BC := Lib.hid (BC.out.below hb)
    replace X := Lib.hid (X.out.below hb)
    replace Y := Lib.hid (Y.out.below hb)
    replace ON := Lib.hid (ON.out.below hb)
    replace BK := Lib.hid (BK.out.below hb)
    replace LE := Lib.hid (LE.out.below hb)
    replace B := Lib.hid (B.out.trans (Joins.below_le hb B.out.size))
    have MM := Lib.hid hl
    clear hb hl
    replace MM := Lib.hid (MM.out.congr (g := zf fun i => i) fun i hi => by show ((a (bk n a i) : Nat) : Int) = ((i : Nat) : Int); rw [(HBk.out i hi).2.2.2])
    go_wp2_with fail
    refine (comp_good n _ a gI ga _ _ _ _ _ ON.out La.out).mono ?_
    rintro e W9 ⟨oNE, pNE, rfl, hl, hb⟩
    replace La := Lib.hid (La.out.below hb)
    replace Lb := Lib.hid (Lb.out.below hb)
    replace Lc := Lib.hid (Lc.out.below hb)
    replace AB := Lib.hid (AB.out.below hb)
    replace BC := Lib.hid (BC.out.below hb)
    replace X := Lib.hid (X.out.below hb)
    replace Y := Lib.hid (Y.out.below hb)
    replace ON := Lib.hid (ON.out.below hb)
    replace BK := Lib.hid (BK.out.below hb)
    replace LE := Lib.hid (LE.out.below hb)
    replace MM := Lib.hid (MM.out.below hb)
    replace B := Lib.hid (B.out.trans (Joins.below_le hb B.out.size))
    have NE := Lib.hid hl
    clear hb hl
    clear Lc BC BK
    go_wp2_with fail
    refine (equal_any n n hn1 (zf fun i => a (b (c i))) (zf fun i => a (b (c i))) _ _ _ _ _ X.out.1 Y.out.1).mono ?_
    rw [eqb_self (fun _ _ => rfl)]
    rintro e W10 ⟨rfl, hb⟩
    replace La := Lib.hid (La.out.below hb)
    replace Lb := Lib.hid (Lb.out.below hb)
    replace AB := Lib.hid (AB.out.below hb)
    replace X := Lib.hid (X.out.below hb)
    replace Y := Lib.hid (Y.out.below hb)
    replace ON := Lib.hid (ON.out.below hb)
    replace LE := Lib.hid (LE.out.below hb)
    replace MM := Lib.hid (MM.out.below hb)
    replace NE := Lib.hid (NE.out.below hb)
    replace B := Lib.hid (B.out.trans (Joins.below_le hb B.out.size))
    clear hb 
    go_wp2_with fail
    refine (equal_any n n hn1 (zf fun i => i) (zf fun i => i) _ _ _ _ _ LE.out.1 ON.out.1).mono ?_
    rw [eqb_self (fun _ _ => rfl)]
    rintro e W11 ⟨rfl, hb⟩
    replace La := Lib.hid (La.out.below hb)
    replace Lb := Lib.hid (Lb.out.below hb)
    replace AB := Lib.hid (AB.out.below hb)
    replace X := Lib.hid (X.out.below hb)
    replace Y := Lib.hid (Y.out.below hb)
    replace ON := Lib.hid (ON.out.below hb)
    replace LE := Lib.hid (LE.out.below hb)
    replace MM := Lib.hid (MM.out.below hb)
    replace NE := Lib.hid (NE.out.below hb)
    replace B := Lib.hid (B.out.trans (Joins.below_le hb B.out.size))
    clear hb 
    go_wp2_with fail
    refine (equal_any n n hn1 (zf fun i => i) (zf fun i => i) _ _ _ _ _ MM.out.1 ON.out.1).mono ?_
    rw [eqb_self (fun _ _ => rfl)]
    rintro e W12 ⟨rfl, hb⟩
    replace La := Lib.hid (La.out.below hb)
    replace Lb := Lib.hid (Lb.out.below hb)
    replace AB := Lib.hid (AB.out.below hb)
    replace X := Lib.hid (X.out.below hb)
    replace Y := Lib.hid (Y.out.below hb)
    replace ON := Lib.hid (ON.out.below hb)
    replace LE := Lib.hid (LE.out.below hb)
    replace MM := Lib.hid (MM.out.below hb)
    replace NE := Lib.hid (NE.out.below hb)
    replace B := Lib.hid (B.out.trans (Joins.below_le hb B.out.size))
    clear hb 
    go_wp2_with fail
    refine (equal_any n n hn1 (zf a) (zf a) _ _ _ _ _ NE.out.1 La.out.1).mono ?_
    rw [eqb_self (fun _ _ => rfl)]
    rintro e W13 ⟨rfl, hb⟩
    replace La := Lib.hid (La.out.below hb)
    replace Lb := Lib.hid (Lb.out.below hb)
    replace AB := Lib.hid (AB.out.below hb)
    replace X := Lib.hid (X.out.below hb)
    replace Y := Lib.hid (Y.out.below hb)
    replace ON := Lib.hid (ON.out.below hb)
    replace LE := Lib.hid (LE.out.below hb)
    replace MM := Lib.hid (MM.out.below hb)
    replace NE := Lib.hid (NE.out.below hb)
    replace B := Lib.hid (B.out.trans (Joins.below_le hb B.out.size))
    clear hb 
    clear X Y LE MM NE ON
    go_wp2_with fail
    refine (odd_good n a ga _ _ _ La.out).mono ?_
    rw [hu]
    rintro e W14 ⟨rfl, hb⟩
    replace La := Lib.hid (La.out.below hb)
    replace Lb := Lib.hid (Lb.out.below hb)
    replace AB := Lib.hid (AB.out.below hb)
    replace B := Lib.hid (B.out.trans (Joins.below_le hb B.out.size))
    clear hb 
    go_wp2_with fail
    refine (odd_good n b gb _ _ _ Lb.out).mono ?_
    rw [hv]
    rintro e W15 ⟨rfl, hb⟩
    replace La := Lib.hid (La.out.below hb)
    replace Lb := Lib.hid (Lb.out.below hb)
    replace AB := Lib.hid (AB.out.below hb)
    replace B := Lib.hid (B.out.trans (Joins.below_le hb B.out.size))
    clear hb 
    go_wp2_with fail
    refine (odd_good n _ (good_comp ga gb) _ _ _ AB.out).mono ?_
    rw [huv]
    rintro e W16 ⟨rfl, hb⟩
    replace La := Lib.hid (La.out.below hb)
    replace Lb := Lib.hid (Lb.out.below hb)
    replace AB := Lib.hid (AB.out.below hb)
    replace B := Lib.hid (B.out.trans (Joins.below_le hb B.out.size))
    clear hb 
    clear La Lb AB
    go_wp2_with fail
    refine (awake_ok _).mono ?_
    rintro e W17 ⟨rfl, hb⟩
    replace B := Lib.hid (B.out.trans (Joins.below_le hb B.out.size))
    clear hb 
    go_wp2_with fail
    go_ret
    exact ⟨by cases u <;> cases v <;> rfl, B.out⟩

end Go.Proofs.YtgppdbiimlbpjaaDoor
