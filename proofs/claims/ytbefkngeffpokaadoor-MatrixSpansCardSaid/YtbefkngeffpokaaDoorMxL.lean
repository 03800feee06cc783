/- The specification's Times. -/
import Derived.Test.YtbefkngeffpokaaDoorMxH
import Derived.WalkKit
import Derived.WalkSpells
import Derived.WalkLawsBesides
import Derived.Handy
import Derived.Deep.QuietTactic
import Derived.BigQuiet
import Derived.Outline
import Derived.Laws.BitsAllLaws
import Derived.IntWalk
import Derived.Lib.SmallJoins
import Derived.Lib.Hide
import Derived.Deep.DeepCutAuto
import Derived.LoopTactic
import Derived.Deep.RegionWith
import Derived.Laws.CopyOwn
import Derived.Maps.OwnOps
import Derived.Maps.OwnSet
import Derived.Laws.OwnMore
import Derived.Maps.AppendAt
import Derived.RangeFuncNested
import Derived.RangeFuncBound
import Derived.RangeFuncCalls
import Derived.RangeFuncLeaves
import Derived.RangeFuncBox
import Derived.RangeFuncFrom
import Derived.Shelf.Abstract
import Derived.Shelf.RegionOpen
import Derived.OwnWalkIn
import Derived.TacticsInMore
import Derived.LoopNIn
import Derived.LoopIn
import Derived.Deep.RegionHeld3
import Derived.RegionTactic
import Derived.ChangeAlike
import Derived.Deep.RegionLaw
import Derived.Deep.AppendLies
namespace Go.Proofs.YtbefkngeffpokaaDoor
set_option linter.unusedVariables false
set_option linter.unusedSimpArgs false
open Go.RowKit

/-- A row of the call's own is appended to a row of rows, at a step of a region that draws. -/
theorem step_app {ops : Array Oper} {o : Oper} {a : Act} {Kx : Act → World → Prop} {Q : Exit → Act → World → Prop} {E : Prop} (w : World) (hgd : o.guard = none) (s x : Operand)
    (ho : o.op = .call { callee := .builtin .append, args := #[s, x], argTypes := #[22, 22] })
    (R : Nat) (v : Value) (k : Nat) (vs : List Value) (L : Nat → List Int) (u : Value) (b : Nat) (hs : a.eval s = v) (h : Rws w R v k vs L) (hu : Row w R u (L k)) (hux : u.ownBlock = none ∨ u.ownBlock ≠ v.ownBlock)
    (hx : a.eval x = .slice (some ⟨b, 0, none⟩) 1 1) (hc : w.cell? ⟨b, 0, none⟩ = some u) (hk : k ≤ 1000000) (hR : R ≤ w.heap.size)
    (hn : ∀ g cap w', Rws w' R (.slice (some ⟨g, 0, none⟩) (k + 1) cap) (k + 1) (vs ++ [u]) L → Below R w w' → Kx (a.put o.dst (.slice (some ⟨g, 0, none⟩) (k + 1) cap)) w') :
    if Region.wanted o (yielded ops a.tmps) = true then Oper.wp Tryd.prog o a w Kx Q else E := by
  obtain ⟨i0, hi, hz0, hz1, hz2⟩ := info_parts infoL
  refine step_append_lies w hgd s x 22 ho R 25 i0 (.slice none 0 0) 1 24 Tryd.underlying22 hi hz0 hz1 hz2 rfl (by decide) v k vs hs h.own ⟨b, 0, none⟩ 1 1 [u] hx rfl ?_ ?_ (by decide) (by unfold maxLen; omega) (by omega) hR _ rfl ?_
  · intro j y hy
    match j, hy with
    | 0, hy => simp at hy; subst hy; exact hc
    | j + 1, hy => simp at hy
  · intro y hy; simp at hy; rw [hy]; exact hu.one
  · intro g cap w' hown hgrow hat hlt
    refine hn g cap w' (h.step hu hux hown hgrow ?_) ((Below.refl _ _).grown hgrow hR ?_)
    · rcases hat with e | e
      · left; rw [e]; rfl
      · right; rw [← e]; rfl
    · intro j hj
      rcases own_cases h.own with ⟨rfl, _⟩ | ⟨g', cap', rfl, hR', _⟩
      · exact absurd hj (by simp [Value.ownBlock])
      · have : g' = j := by simpa [Value.ownBlock] using hj
        omega
theorem Rws.new {w : World} {R k : Nat} {v u : Value} {vs : List Value} {L : Nat → List Int} {l : List Int} {w' : World} (h : Rws w R v k vs L) (hu : Row w' w.heap.size u l) : u.ownBlock = none ∨ u.ownBlock ≠ v.ownBlock := by
  rcases hu.cases with ⟨rfl, _⟩ | ⟨g, cap, rfl, hg, _⟩
  · exact .inl rfl
  · right
    intro e
    rcases own_cases h.own with ⟨rfl, _⟩ | ⟨g', cap', rfl, _, hg', _⟩
    · simp [Value.ownBlock] at e
    · have : g = g' := by simpa [Value.ownBlock] using e
      omega
theorem Rws.nil (w : World) (R : Nat) (L : Nat → List Int) : Rws w R (.slice none 0 0) 0 [] L := ⟨⟨rfl, .inl ⟨rfl, rfl⟩⟩, fun c hc => absurd hc (Nat.not_lt_zero _)⟩
theorem mx_rws {w : World} {R K C : Nat} {v : Value} {vs : List Value} {r : Nat → Nat} (h : Rws w R v K vs fun c => ints (el C (r c))) : ∃ o cap, v = .slice o K cap ∧ Mx w o K C r := h.ls
theorem Rws.le {w : World} {R R' k : Nat} {v : Value} {vs : List Value} {L : Nat → List Int} (h : Rws w R v k vs L) (hR : R' ≤ R) : Rws w R' v k vs L := by
  refine ⟨⟨h.own.1, ?_⟩, fun c hc => by obtain ⟨u, h1, h2, h3⟩ := h.rows c hc; exact ⟨u, h1, h2.le hR, h3⟩⟩
  rcases h.own.2 with h0 | ⟨g, cap, cur, h1, h2, h3⟩
  · exact .inl h0
  · exact .inr ⟨g, cap, cur, h1, by omega, h3⟩
/-- A matrix of rows that lie from block R on. -/
def Mn (R : Nat) (w : World) (o : Option Addr) (K cap N : Nat) (r : Nat → Nat) : Prop := ∃ vs, Rws w R (.slice o K cap) K vs fun c => ints (el N (r c))
theorem Mn.mx {R : Nat} {w : World} {o : Option Addr} {K cap N : Nat} {r : Nat → Nat} (h : Mn R w o K cap N r) : Mx w o K N r := by
  obtain ⟨vs, h⟩ := h
  obtain ⟨o', cap', e, hm⟩ := h.ls
  cases e
  exact hm
theorem Mn.below {R : Nat} {w W : World} {o : Option Addr} {K cap N : Nat} {r : Nat → Nat} (h : Mn R w o K cap N r) (hb : Below w.heap.size w W) : Mn R W o K cap N r := by
  obtain ⟨vs, h⟩ := h
  exact ⟨vs, h.below hb⟩
theorem Mn.le {R R' : Nat} {w : World} {o : Option Addr} {K cap N : Nat} {r : Nat → Nat} (h : Mn R w o K cap N r) (hR : R' ≤ R) : Mn R' w o K cap N r := by
  obtain ⟨vs, h⟩ := h
  exact ⟨vs, h.le hR⟩
theorem Mn.nil (R : Nat) (w : World) (N : Nat) (r : Nat → Nat) : Mn R w none 0 0 N r := ⟨[], Rws.nil _ _ _⟩
theorem news_one (w : World) (u : Value) (t : TypeId) : (w.alloc (.cells #[u] t)).cell? ⟨w.heap.size, 0, none⟩ = some u := World.cell?_alloc_mark _ #[_] t (0, 0) 0
/-- The result under way: in the block X the number of columns and the rows so far. -/
structure Out (W V : World) (X : Nat) (C : Int) (k : Nat) (L : Nat → List Int) (v : Value) (vs : List Value) : Prop where
  box : Box V X #[.int .i64 C, v] 24
  rws : Rws V (X + 1) v k vs L
  bel : Below X W V
theorem Out.below {W V y : World} {X k : Nat} {C : Int} {L : Nat → List Int} {v : Value} {vs : List Value} (h : Out W V X C k L v vs) (hb : Below V.heap.size V y) : Out W y X C k L v vs :=
  ⟨h.box.below hb h.box.lt, h.rws.below hb, h.bel.trans (hb.mono (Nat.le_of_lt h.box.lt))⟩
theorem Out.drew {W V : World} {X k : Nat} {C : Int} {L : Nat → List Int} {v : Value} {vs : List Value} (h : Out W V X C k L v vs) (n : Nat) : Out W (V.drewN n) X C k L v vs := h.below (below_dn n (Below.refl _ _))
/-- A field of the block at hand is about to be written anew. -/
structure Out1 (W V : World) (X : Nat) (C : Int) (k : Nat) (L : Nat → List Int) (v v' : Value) (vs : List Value) : Prop where
  box : Box V X #[.int .i64 C, v] 24
  rws : Rws V (X + 1) v' k vs L
  bel : Below X W V
theorem Out.app {W y V w1 : World} {X k : Nat} {C : Int} {L : Nat → List Int} {v v' : Value} {vs vs' : List Value} (h : Out W y X C k L v vs) (hb : Below y.heap.size y V) (hr : Rws w1 (X + 1) v' (k + 1) vs' L) (h1 : Below (X + 1) V w1) : Out1 W w1 X C (k + 1) L v v' vs' :=
  ⟨(h.below hb).box.below h1 (Nat.lt_succ_self _), hr, (h.below hb).bel.trans (h1.mono (Nat.le_succ _))⟩
theorem Out1.fin {W w1 : World} {X k : Nat} {C : Int} {L : Nat → List Int} {v v' : Value} {vs : List Value} (h : Out1 W w1 X C k L v v' vs) : Out W (w1.setCell ⟨X, 1, none⟩ v') X C k L v' vs :=
  ⟨h.box.set 1 v', ⟨own_keep h.rws.own fun j hj hj2 => Below.heap_setCell _ _ _ _ (by simp; omega), fun c hc => by
    obtain ⟨u, h1, h2, h3⟩ := h.rws.rows c hc
    exact ⟨u, h1, own_keep h2 fun j hj hj2 => Below.heap_setCell _ _ _ _ (by simp; omega), h3⟩⟩, h.bel.setCell (Nat.le_refl _) _⟩
theorem Rws.set {w : World} {R k : Nat} {v : Value} {vs : List Value} {L : Nat → List Int} (h : Rws w R v k vs L) {b i : Nat} (hb : b < R) (x : Value) : Rws (w.setCell ⟨b, i, none⟩ x) R v k vs L :=
  ⟨own_keep h.own fun j hj hj2 => Below.heap_setCell _ _ _ _ (by simp; omega), fun c hc => by
    obtain ⟨u, h1, h2, h3⟩ := h.rows c hc
    exact ⟨u, h1, own_keep h2 fun j hj hj2 => Below.heap_setCell _ _ _ _ (by simp; omega), h3⟩⟩
theorem Mn.set {R : Nat} {w : World} {o : Option Addr} {K cap N : Nat} {r : Nat → Nat} (h : Mn R w o K cap N r) {b i : Nat} (hb : b < R) (x : Value) : Mn R (w.setCell ⟨b, i, none⟩ x) o K cap N r := by
  obtain ⟨vs, h⟩ := h
  exact ⟨vs, h.set hb x⟩
set_option maxRecDepth 100000 in
set_option maxHeartbeats 8000000 in
theorem times_ok (Ca Cb Ka : Nat) (hCb : Cb ≤ 31) (hCa : Ca ≤ 31) (hKa : Ka ≤ 31) (a b : Nat → Nat) (o p : Option Addr) (cap cap' : Nat) (w : World) (hM : Mx w o Ka Ca a) (hM' : Mx w p Ca Cb b) :
    Calls Tryd.prog 55 #[mv (Ca : Int) o Ka cap, mv (Cb : Int) p Ca cap'] w fun e w' => ∃ o' cap', e = .returned (mv (Cb : Int) o' Ka cap') ∧ Mn w.heap.size w' o' Ka cap' Cb (mulr Ca a b) ∧ Below w.heap.size w w' := by
  obtain ⟨S, hS⟩ : ∃ n, w.heap.size = n := ⟨_, rfl⟩
  unfold mv
  have HM := Lib.hid hM
  have HM' := Lib.hid hM'
  have HSw := Lib.hid hS
  clear hM hM'
  go_enter Tryd.func55, Tryd.ntmps55
  go_wp2_with fail
  have hbW := Lib.hid (((((Below.refl w.heap.size w).alloc (Nat.le_refl _) (.cells #[.int .i64 (Ca : Int), .slice o Ka cap] 24)).alloc (by simp) (.cells #[.int .i64 (Cb : Int), .slice p Ca cap'] 24)).alloc (by simp; omega) (.cells #[.int .i64 0, .slice none 0 0] 24)).alloc (by simp; omega) (.cells #[.int .i64 (Cb : Int), .slice none 0 0] 24))
  have b0 := (((Box.new w #[.int .i64 (Ca : Int), .slice o Ka cap] 24).alloc (.cells #[.int .i64 (Cb : Int), .slice p Ca cap'] 24)).alloc (.cells #[.int .i64 0, .slice none 0 0] 24)).alloc (.cells #[.int .i64 (Cb : Int), .slice none 0 0] 24)
  have b1 := ((Box.new (w.alloc (.cells #[.int .i64 (Ca : Int), .slice o Ka cap] 24)) #[.int .i64 (Cb : Int), .slice p Ca cap'] 24).alloc (.cells #[.int .i64 0, .slice none 0 0] 24)).alloc (.cells #[.int .i64 (Cb : Int), .slice none 0 0] 24)
  have b2 := (Box.new ((w.alloc (.cells #[.int .i64 (Ca : Int), .slice o Ka cap] 24)).alloc (.cells #[.int .i64 (Cb : Int), .slice p Ca cap'] 24)) #[.int .i64 0, .slice none 0 0] 24).alloc (.cells #[.int .i64 (Cb : Int), .slice none 0 0] 24)
  have b3 := Box.new (((w.alloc (.cells #[.int .i64 (Ca : Int), .slice o Ka cap] 24)).alloc (.cells #[.int .i64 (Cb : Int), .slice p Ca cap'] 24)).alloc (.cells #[.int .i64 0, .slice none 0 0] 24)) #[.int .i64 (Cb : Int), .slice none 0 0] 24
  obtain ⟨W, hW⟩ : ∃ W, (((w.alloc (.cells #[.int .i64 (Ca : Int), .slice o Ka cap] 24)).alloc (.cells #[.int .i64 (Cb : Int), .slice p Ca cap'] 24)).alloc (.cells #[.int .i64 0, .slice none 0 0] 24)).alloc (.cells #[.int .i64 (Cb : Int), .slice none 0 0] 24) = W := ⟨_, rfl⟩
  rw [hW] at hbW b0 b1 b2 b3 ⊢
  simp only [World.size_alloc, hS] at b0 b1 b2 b3 hbW
  have hsW : W.heap.size = S + 1 + 1 + 1 + 1 := by rw [← hW]; simp [hS]
  have HA := Lib.hid b0
  have HB := Lib.hid b1
  have HO := Lib.hid b3
  have HsW := Lib.hid hsW
  have HC := Lib.hid b2
  clear hW b0 b1 b2 b3 hsW hS
  obtain ⟨X, hX⟩ : ∃ x, S + 1 + 1 + 1 = x := ⟨_, rfl⟩
  rw [hX] at HO HsW ⊢
  have HX := Lib.hid hX
  clear hX
  obtain ⟨L, hL⟩ : ∃ L : Nat → List Int, (fun c => ints (el Cb (mulr Ca a b c))) = L := ⟨_, rfl⟩
  have HL := Lib.hid hL
  clear hL
  go_loopw [6] (fun j wr => ∃ (k : Nat) (v : Value) (vs : List Value), k ≤ Ka ∧ j = .int .i64 (k : Int) ∧ Out W wr X (Cb : Int) k L v vs) (fun j _ => Ka - (intOf j).toNat)
  case atStart => exact ⟨0, _, [], by omega, by first | trivial | rfl, HO.out, Rws.nil _ _ _, Below.refl _ _⟩
  case round =>
    obtain ⟨k, v, vs, hk, rfl, ho⟩ := hrel
    have hxs := HX.out
    have c0 := (HA.out.below ho.bel (by omega)).cell 1
    have c1 := (HB.out.below ho.bel (by omega)).cell 1
    have c3 := ho.box.cell 1
    have hob := ho.bel
    have HOu := Lib.hid ho
    by_cases hlt : k < Ka
    · have hk1 : (k : Int) < (Ka : Int) := by omega
      obtain ⟨bM, oM, oc, cpc, rfl, hbM, e1, l1⟩ := HM.out.at_ hlt
      have hbs : Below S w wr := hbW.out.trans (ho.bel.mono (by omega))
      have hsS := HSw.out
      have e2 := (hbs.cell (p := ⟨bM, oM + k, none⟩) (by show bM < S; omega)).trans e1
      have hsum : ∀ V, Below wr.heap.size wr V → Calls Tryd.prog 40 #[.slice p Ca cap', .slice oc (el Ca (a k)).length cpc] V fun e y => ∃ o1 n2 c1, e = .returned (.slice o1 n2 c1) ∧ Row y (X + 1) (.slice o1 n2 c1) (L k) ∧ Out W y X (Cb : Int) k L v vs ∧ ((Value.slice o1 n2 c1).ownBlock = none ∨ (Value.slice o1 n2 c1).ownBlock ≠ v.ownBlock) ∧ X + 1 ≤ y.heap.size := fun V hV => by
        have hbS : Below w.heap.size w V := by rw [hsS]; exact hbs.trans (hV.mono (by have := ho.box.lt; omega))
        refine (sum_ok Ca Cb hCb b (el Ca (a k)) (fun i hi => (el_mem.1 hi).1) (by have := el_len Ca (a k); omega) p oc cap' cpc V (HM'.out.below hbS) (l1.below hbS)).mono ?_
        rintro e y ⟨u, rfl, hr, hb⟩
        have hoV := ho.below hV
        have hlV := hoV.box.lt
        rw [← HL.out]
        rw [← HL.out] at hoV
        obtain ⟨o1, c1, rfl, _⟩ := hr.shape
        exact ⟨o1, _, c1, rfl, hr.le hlV, hoV.below hb, hoV.rws.new hr, by have := hb.size; omega⟩
      have HSum := Lib.hid hsum
      obtain ⟨n1, hn1⟩ : ∃ n, (el Ca (a k)).length = n := ⟨_, rfl⟩
      rw [hn1] at HSum e2
      have HZ : Hid (∀ V, Below X W V → V.cell? ⟨S, 1, none⟩ = some (.slice (some ⟨bM, oM, none⟩) Ka cap) ∧ V.cell? ⟨S + 1, 1, none⟩ = some (.slice p Ca cap') ∧ V.cell? ⟨bM, oM + k, none⟩ = some (.slice oc n1 cpc)) := Lib.hid fun V hV => ⟨(HA.out.below hV (by omega)).cell 1, (HB.out.below hV (by omega)).cell 1, (((hbW.out.trans (hV.mono (by omega))).cell (p := ⟨bM, oM + k, none⟩) (by show bM < S; omega)).trans (by rw [← hn1]; exact e1))⟩
      have HKa := Lib.hid hKa
      clear e1 l1 hn1 hsum hbs hbM hsS hxs ho
      go_wp2_with fail
      go_region_law (first | (go_simp; go_at_call 40; refine (HSum.out _ (by first | exact Below.refl _ _ | exact below_dn 1 (Below.refl _ _) | assumption)).mono ?_; rintro e y ⟨o1, n2, c2, rfl, hru, hou, hux, hsz⟩; have q3 : y.cell? ⟨X, 1, none⟩ = some v := hou.box.cell 1; have q5 : ∀ ob, (y.alloc ob).cell? ⟨X, 1, none⟩ = some v := fun ob => (hou.box.alloc ob).cell 1; have hbel1 := hou.bel; dsimp only) | (refine step_app _ rfl (.tmp 18) (.tmp 27) rfl (X + 1) v k vs L (.slice o1 n2 c2) _ rfl (hou.rws.below (by first | exact Below.refl _ _ | exact (Below.refl _ _).alloc (Nat.le_refl _) _ | exact below_dn 1 ((Below.refl _ _).alloc (Nat.le_refl _) _) | exact (below_dn 1 (Below.refl _ _)).alloc (Nat.le_refl _) _)) (Row.below hru (by first | exact Below.refl _ _ | exact (Below.refl _ _).alloc (Nat.le_refl _) _ | exact below_dn 1 ((Below.refl _ _).alloc (Nat.le_refl _) _) | exact (below_dn 1 (Below.refl _ _)).alloc (Nat.le_refl _) _)) hux rfl (news_one _ _ _) (by have := HKa.out; omega) (by simp; omega) ?_; intro g cv w1 hr1 hb1; have ho1 := hou.app (by first | exact Below.refl _ _ | exact (Below.refl _ _).alloc (Nat.le_refl _) _ | exact below_dn 1 ((Below.refl _ _).alloc (Nat.le_refl _) _) | exact (below_dn 1 (Below.refl _ _)).alloc (Nat.le_refl _) _) hr1 hb1; have q4 := ho1.box.cell 1; have g4 := ho1.box.open_ 1; have hbel2 := ho1.bel))
      all_goals
        go_wp2_with fail
        go_roundw
        case rel => exact ⟨k + 1, _, _, by omega, by go_num, Out1.fin (by assumption)⟩
        case measure => simp [intOf]; omega
    · have e : Ka = k := by omega
      subst e
      have d0 := (HC.out.below hob (by omega)).cell 0
      have d1 := (HC.out.below hob (by omega)).cell 1
      have f0 := (HC.out.below hob (by omega)).open_ 0
      have f1 := (HC.out.below hob (by omega)).open_ 1
      have c4 := ho.box.cell 0
      obtain ⟨ov, cv, rfl, _⟩ := ho.rws.ls
      have hfb := ((HC.out.below hob (by omega)).set 0 (.int .i64 (Cb : Int))).set 1 (.slice ov Ka cv)
      have hfr := ((ho.rws.set (b := S + 1 + 1) (i := 0) (by omega) (.int .i64 (Cb : Int))).set (b := S + 1 + 1) (i := 1) (by omega) (.slice ov Ka cv))
      have hfw := (((hbW.out.trans (hob.mono (by omega))).setCell (p := ⟨S + 1 + 1, 0, none⟩) (by show S ≤ S + 1 + 1; omega) (.int .i64 (Cb : Int))).setCell (p := ⟨S + 1 + 1, 1, none⟩) (by show S ≤ S + 1 + 1; omega) (.slice ov Ka cv))
      have HFB := Lib.hid hfb
      rw [← HL.out] at hfr
      have hmx : Mn S _ ov Ka cv Cb (mulr Ca a b) := ⟨vs, hfr.le (by omega)⟩
      have HMX := Lib.hid hmx
      have HFW := Lib.hid hfw
      clear hlt hxs ho hob hfb hfr hfw hmx
      go_wp2_with fail
      have z0 := HFB.out.cell 0
      have z1 := HFB.out.cell 1
      simp at z0 z1
      refine bodyPost_ret (v := .agg #[.int .i64 (Cb : Int), .slice ov Ka cv]) (by simp [results, Tryd.results55, go_sem, z0, z1]) rfl ⟨_, _, rfl, by rw [HSw.out]; exact HMX.out, ?_⟩
      rw [HSw.out]
      exact HFW.out

end Go.Proofs.YtbefkngeffpokaaDoor
