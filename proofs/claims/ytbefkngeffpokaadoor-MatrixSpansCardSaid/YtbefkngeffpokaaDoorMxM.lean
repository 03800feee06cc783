/- The specification's Turned. -/
import Derived.Test.YtbefkngeffpokaaDoorMxL
import Derived.WalkKit
import Derived.WalkSpells
import Derived.WalkLawsBesides
import Derived.Handy
import Derived.Deep.QuietTactic
import Derived.BigQuiet
import Derived.Outline
import Derived.Laws.BitsAllLaws
import Derived.IntWalk
import Derived.Lib.SmallJoins
import Derived.Lib.Hide
import Derived.Deep.DeepCutAuto
import Derived.LoopTactic
import Derived.Deep.RegionWith
import Derived.Laws.CopyOwn
import Derived.Maps.OwnOps
import Derived.Maps.OwnSet
import Derived.Laws.OwnMore
import Derived.Maps.AppendAt
import Derived.RangeFuncNested
import Derived.RangeFuncBound
import Derived.RangeFuncCalls
import Derived.RangeFuncLeaves
import Derived.RangeFuncBox
import Derived.RangeFuncFrom
import Derived.Shelf.Abstract
import Derived.Shelf.RegionOpen
import Derived.OwnWalkIn
import Derived.TacticsInMore
import Derived.LoopNIn
import Derived.LoopIn
import Derived.Deep.RegionHeld3
import Derived.RegionTactic
import Derived.ChangeAlike
import Derived.Deep.RegionLaw
import Derived.Deep.AppendLies
namespace Go.Proofs.YtbefkngeffpokaaDoor
set_option linter.unusedVariables false
set_option linter.unusedSimpArgs false
open Go.RowKit

/-- The rows, of the first k, that have a column. -/
def tcl (r : Nat → Nat) (c k : Nat) : List Nat := (List.range k).filter fun i => (r i).testBit c
theorem tcl_step (r : Nat → Nat) (c k : Nat) : tcl r c (k + 1) = if (r k).testBit c then tcl r c k ++ [k] else tcl r c k := by
  unfold tcl
  rw [List.range_succ, List.filter_append]
  by_cases h : (r k).testBit c
  · rw [if_pos h]; simp [h]
  · rw [if_neg h]; simp [h]
theorem tcl_len (r : Nat → Nat) (c k : Nat) : (tcl r c k).length ≤ k := by
  unfold tcl
  exact Nat.le_trans (List.length_filter_le _ _) (by simp)
theorem tcl_el (r : Nat → Nat) (c K : Nat) : el K (trr K r c) = tcl r c K := el_msk (List.pairwise_lt_range.filter _) fun i hi => by simpa using (List.mem_filter.1 hi).1
/-- A row of the call's own is appended to a row of rows, in a plain region. -/
theorem wl_app {ops : Array Oper} {rest : List Oper} {o : Oper} {a : Act} {Q : Exit → Act → World → Prop} (w : World) (hgd : o.guard = none) (s x : Operand)
    (ho : o.op = .call { callee := .builtin .append, args := #[s, x], argTypes := #[22, 22] })
    (R : Nat) (v : Value) (k : Nat) (vs : List Value) (L : Nat → List Int) (u : Value) (b : Nat) (hs : a.eval s = v) (h : Rws w R v k vs L) (hu : Row w R u (L k)) (hux : u.ownBlock = none ∨ u.ownBlock ≠ v.ownBlock)
    (hx : a.eval x = .slice (some ⟨b, 0, none⟩) 1 1) (hc : w.cell? ⟨b, 0, none⟩ = some u) (hk : k ≤ 1000000) (hR : R ≤ w.heap.size)
    (hn : ∀ g cap w', Rws w' R (.slice (some ⟨g, 0, none⟩) (k + 1) cap) (k + 1) (vs ++ [u]) L → Below R w w' → wpList Tryd.prog ops Q rest (a.put o.dst (.slice (some ⟨g, 0, none⟩) (k + 1) cap)) w') :
    wpList Tryd.prog ops Q (o :: rest) a w := by
  obtain ⟨i0, hi, hz0, hz1, hz2⟩ := info_parts infoL
  refine wpList_append_lies w hgd s x 22 ho R 25 i0 (.slice none 0 0) 1 24 Tryd.underlying22 hi hz0 hz1 hz2 rfl (by decide) v k vs hs h.own ⟨b, 0, none⟩ 1 1 [u] hx rfl ?_ ?_ (by decide) (by unfold maxLen; omega) (by omega) hR _ rfl ?_
  · intro j y hy
    match j, hy with
    | 0, hy => simp at hy; subst hy; exact hc
    | j + 1, hy => simp at hy
  · intro y hy; simp at hy; rw [hy]; exact hu.one
  · intro g cap w' hown hgrow hat hlt
    refine hn g cap w' (h.step hu hux hown hgrow ?_) ((Below.refl _ _).grown hgrow hR ?_)
    · rcases hat with e | e
      · left; rw [e]; rfl
      · right; rw [← e]; rfl
    · intro j hj
      rcases own_cases h.own with ⟨rfl, _⟩ | ⟨g', cap', rfl, hR', _⟩
      · exact absurd hj (by simp [Value.ownBlock])
      · have : g' = j := by simpa [Value.ownBlock] using hj
        omega
set_option maxRecDepth 100000 in
set_option maxHeartbeats 8000000 in
theorem turned_ok (C K : Nat) (hC : C ≤ 31) (hK : K ≤ 31) (r : Nat → Nat) (o : Option Addr) (cap : Nat) (w : World) (hM : Mx w o K C r) :
    Calls Tryd.prog 44 #[mv (C : Int) o K cap] w fun e w' => ∃ o' cap', e = .returned (mv (K : Int) o' C cap') ∧ Mn w.heap.size w' o' C cap' K (trr K r) ∧ Below w.heap.size w w' := by
  obtain ⟨S, hS⟩ : ∃ n, w.heap.size = n := ⟨_, rfl⟩
  unfold mv
  have HM := Lib.hid hM
  have HSw := Lib.hid hS
  clear hM
  go_enter Tryd.func44, Tryd.ntmps44
  go_wp2_with fail
  have hbW := Lib.hid ((((Below.refl w.heap.size w).alloc (Nat.le_refl _) (.cells #[.int .i64 (C : Int), .slice o K cap] 24)).alloc (by simp) (.cells #[.int .i64 0, .slice none 0 0] 24)).alloc (by simp; omega) (.cells #[.int .i64 (K : Int), .slice none 0 0] 24))
  have b0 := ((Box.new w #[.int .i64 (C : Int), .slice o K cap] 24).alloc (.cells #[.int .i64 0, .slice none 0 0] 24)).alloc (.cells #[.int .i64 (K : Int), .slice none 0 0] 24)
  have b2 := (Box.new (w.alloc (.cells #[.int .i64 (C : Int), .slice o K cap] 24)) #[.int .i64 0, .slice none 0 0] 24).alloc (.cells #[.int .i64 (K : Int), .slice none 0 0] 24)
  have b3 := Box.new ((w.alloc (.cells #[.int .i64 (C : Int), .slice o K cap] 24)).alloc (.cells #[.int .i64 0, .slice none 0 0] 24)) #[.int .i64 (K : Int), .slice none 0 0] 24
  obtain ⟨W, hW⟩ : ∃ W, ((w.alloc (.cells #[.int .i64 (C : Int), .slice o K cap] 24)).alloc (.cells #[.int .i64 0, .slice none 0 0] 24)).alloc (.cells #[.int .i64 (K : Int), .slice none 0 0] 24) = W := ⟨_, rfl⟩
  rw [hW] at hbW b0 b2 b3 ⊢
  simp only [World.size_alloc, hS] at b0 b2 b3 hbW
  have hsW : W.heap.size = S + 1 + 1 + 1 := by rw [← hW]; simp [hS]
  have HA := Lib.hid b0
  have HC := Lib.hid b2
  have HO := Lib.hid b3
  have HsW := Lib.hid hsW
  clear hW b0 b2 b3 hsW hS
  obtain ⟨X, hX⟩ : ∃ x, S + 1 + 1 = x := ⟨_, rfl⟩
  rw [hX] at HO HsW ⊢
  have HX := Lib.hid hX
  clear hX
  obtain ⟨L, hL⟩ : ∃ L : Nat → List Int, (fun c => ints (el K (trr K r c))) = L := ⟨_, rfl⟩
  have HL := Lib.hid hL
  clear hL
  go_loopw [4] (fun j wr => ∃ (k : Nat) (v : Value) (vs : List Value), k ≤ C ∧ j = .int .i64 (k : Int) ∧ Out W wr X (K : Int) k L v vs) (fun j _ => C - (intOf j).toNat)
  case atStart => exact ⟨0, _, [], by omega, by first | trivial | rfl, HO.out, Rws.nil _ _ _, Below.refl _ _⟩
  case round =>
    obtain ⟨U, hU⟩ : ∃ U, U = wr := ⟨_, rfl⟩
    subst hU
    obtain ⟨k, v, vs, hk, rfl, ho⟩ := hrel
    have hxs := HX.out
    have c0 := (HA.out.below ho.bel (by omega)).cell 0
    have c1 := (HA.out.below ho.bel (by omega)).cell 1
    have hob := ho.bel
    have HOu := Lib.hid ho
    by_cases hlt : k < C
    · have hk1 : (k : Int) < (C : Int) := by omega
      have HK := Lib.hid hK
      have hMw : Mx U o K C r := HM.out.below (by rw [HSw.out]; exact hbW.out.trans (ho.bel.mono (by omega)))
      have HMw := Lib.hid hMw
      have HAw := Lib.hid (HA.out.below ho.bel (by omega))
      clear hMw hxs ho hob
      go_wp2_with fail
      go_loopw [5, 6] (fun v j wr => ∃ i : Nat, i ≤ K ∧ j = .int .i64 (i : Int) ∧ Row wr U.heap.size v (ints (tcl r k i)) ∧ Below U.heap.size U wr) (fun _ j _ => K - (intOf j).toNat)
      case atStart => exact ⟨0, by omega, by first | trivial | rfl, Row.nil _ _, Below.refl _ _⟩
      case round =>
        obtain ⟨i, hi, rfl, hrw, hbe⟩ := hrel
        have d1 := (HAw.out.below hbe HAw.out.lt).cell 1
        have HRw := Lib.hid hrw
        have HBe := Lib.hid hbe
        by_cases hli : i < K
        · have hi1 : (i : Int) < (K : Int) := by omega
          obtain ⟨bM, oM, oc, cpc, rfl, hbM, e1, l1⟩ := HMw.out.at_ hli
          have e2 := (hbe.cell (p := ⟨bM, oM + i, none⟩) hbM).trans e1
          have hha := has_mem (el C (r i)) (by have := el_len C (r i); omega) k oc cpc wr (l1.below hbe)
          have hdec : decide (k ∈ el C (r i)) = (r i).testBit k := by
            rw [Bool.eq_iff_iff, decide_eq_true_iff, el_mem]
            exact ⟨fun h => h.2, fun h => ⟨hlt, h⟩⟩
          rw [hdec] at hha
          have hst := tcl_step r k i
          obtain ⟨q, hq⟩ : ∃ q, (r i).testBit k = q := ⟨_, rfl⟩
          rw [hq] at hha hst
          obtain ⟨n1, hn1⟩ : ∃ n, (el C (r i)).length = n := ⟨_, rfl⟩
          rw [hn1] at hha e2
          have HHa := Lib.hid hha
          obtain ⟨pm, hpm⟩ : ∃ m, (ints (tcl r k i)).length = m := ⟨_, rfl⟩
          obtain ⟨ov, cv, rfl, _⟩ := hrw.shape' hpm
          have HPl := Lib.hid (show (ints (tcl r k i)).length ≤ 1000000 by rw [ints_len]; have := tcl_len r k i; have := HK.out; omega)
          have HSz := Lib.hid hbe.size
          clear e1 l1 hha hdec hq hn1 hpm hrw hbe
          cases q with
          | true =>
            rw [if_pos rfl] at hst
            have HSt := Lib.hid hst
            clear hst
            go_wp2_with fail
            refine HHa.out.mono ?_
            rintro e w' ⟨rfl, rfl⟩
            go_wp2_with (at_builtin; refine app_int _ rfl _ _ rfl U.heap.size _ _ rfl (HRw.out.alloc _) _ (i : Int) rfl (World.cell?_alloc_mark _ #[_] 3 (0, 0) 0) HPl.out (by have := HSz.out; simp; omega) ?_; intro gg cv2 w2 hr2 hbb2 hgg; have HR2 := Lib.hid hr2; have HBB := Lib.hid ((HBe.out.alloc HSz.out _).trans hbb2); clear hr2 hbb2)
            go_roundw
            case rel => exact ⟨i + 1, by omega, by go_num, by rw [HSt.out, ints_snoc]; exact HR2.out, HBB.out⟩
            case measure => simp [intOf]; omega
          | false =>
            rw [if_neg (by simp)] at hst
            have HSt := Lib.hid hst
            clear hst
            go_wp2_with fail
            refine HHa.out.mono ?_
            rintro e w' ⟨rfl, rfl⟩
            go_wp2_with fail
            go_roundw
            case rel => exact ⟨i + 1, by omega, by go_num, by rw [HSt.out]; exact HRw.out, HBe.out⟩
            case measure => simp [intOf]; omega
        · have e : K = i := by omega
          subst e
          have hOV := HOu.out.below hbe
          have q3 := hOV.box.cell 1
          have g3 := hOV.box.open_ 1
          have q5 : ∀ ob, (wr.alloc ob).cell? ⟨X, 1, none⟩ = some v := fun ob => (hOV.box.alloc ob).cell 1
          have q6 : ∀ ob, (wr.drew.alloc ob).cell? ⟨X, 1, none⟩ = some v := fun ob => (((hOV.drew 1).box).alloc ob).cell 1
          obtain ⟨pm, hpm⟩ : ∃ m, (ints (tcl r k K)).length = m := ⟨_, rfl⟩
          obtain ⟨ov, cv, rfl, _⟩ := hrw.shape' hpm
          have hux := HOu.out.rws.new hrw
          have hrL : Row wr (X + 1) (.slice ov pm cv) (L k) := by
            rw [← HL.out]
            show Row wr (X + 1) (.slice ov pm cv) (ints (el K (trr K r k)))
            rw [tcl_el]
            exact hrw.le HOu.out.box.lt
          have hsz : X + 1 ≤ wr.heap.size := hOV.box.lt
          have hCb := Lib.hid hC
          have hou := hOV
          have hkC := Lib.hid hk
          clear hrw hbe hli hpm
          go_wp2_with (at_builtin; refine wl_app _ rfl _ _ rfl (X + 1) v k vs L (.slice ov pm cv) _ rfl (hou.rws.below (by first | exact Below.refl _ _ | exact (Below.refl _ _).alloc (Nat.le_refl _) _ | exact below_dn 1 (Below.refl _ _) | exact below_dn 1 ((Below.refl _ _).alloc (Nat.le_refl _) _) | exact (below_dn 1 (Below.refl _ _)).alloc (Nat.le_refl _) _)) (hrL.below (by first | exact Below.refl _ _ | exact (Below.refl _ _).alloc (Nat.le_refl _) _ | exact below_dn 1 (Below.refl _ _) | exact below_dn 1 ((Below.refl _ _).alloc (Nat.le_refl _) _) | exact (below_dn 1 (Below.refl _ _)).alloc (Nat.le_refl _) _)) hux rfl (news_one _ _ _) (by omega) (by simp; omega) ?_; intro g cv2 w1 hr1 hb1; have ho1 := hou.app (by first | exact Below.refl _ _ | exact (Below.refl _ _).alloc (Nat.le_refl _) _ | exact below_dn 1 (Below.refl _ _) | exact below_dn 1 ((Below.refl _ _).alloc (Nat.le_refl _) _) | exact (below_dn 1 (Below.refl _ _)).alloc (Nat.le_refl _) _) hr1 hb1; have q4 := ho1.box.cell 1; have g4 := ho1.box.open_ 1)
          go_roundw
          case rel => exact ⟨k + 1, _, _, by omega, by go_num, Out1.fin (by assumption)⟩
          case measure => simp [intOf]; omega
    · have e : C = k := by omega
      subst e
      have d0 := (HC.out.below hob (by omega)).cell 0
      have d1 := (HC.out.below hob (by omega)).cell 1
      have f0 := (HC.out.below hob (by omega)).open_ 0
      have f1 := (HC.out.below hob (by omega)).open_ 1
      have c3 := ho.box.cell 1
      have c4 := ho.box.cell 0
      obtain ⟨ov, cv, rfl, _⟩ := ho.rws.ls
      have hfb := ((HC.out.below hob (by omega)).set 0 (.int .i64 (K : Int))).set 1 (.slice ov C cv)
      have hfr := ((ho.rws.set (b := S + 1) (i := 0) (by omega) (.int .i64 (K : Int))).set (b := S + 1) (i := 1) (by omega) (.slice ov C cv))
      have hfw := (((hbW.out.trans (hob.mono (by omega))).setCell (p := ⟨S + 1, 0, none⟩) (by show S ≤ S + 1; omega) (.int .i64 (K : Int))).setCell (p := ⟨S + 1, 1, none⟩) (by show S ≤ S + 1; omega) (.slice ov C cv))
      have HFB := Lib.hid hfb
      rw [← HL.out] at hfr
      have hmx : Mn S _ ov C cv K (trr K r) := ⟨vs, hfr.le (by omega)⟩
      have HMX := Lib.hid hmx
      have HFW := Lib.hid hfw
      clear hlt hxs ho hob hfb hfr hfw hmx
      go_wp2_with fail
      have z0 := HFB.out.cell 0
      have z1 := HFB.out.cell 1
      simp at z0 z1
      refine bodyPost_ret (v := .agg #[.int .i64 (K : Int), .slice ov C cv]) (by simp [results, Tryd.results44, go_sem, z0, z1]) rfl ⟨_, _, rfl, by rw [HSw.out]; exact HMX.out, ?_⟩
      rw [HSw.out]
      exact HFW.out

end Go.Proofs.YtbefkngeffpokaaDoor
