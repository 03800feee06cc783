/- The specification's Add. -/
import Derived.Test.YtbefkngeffpokaaDoorMxO
import Derived.WalkKit
import Derived.WalkSpells
import Derived.WalkLawsBesides
import Derived.Handy
import Derived.Deep.QuietTactic
import Derived.BigQuiet
import Derived.Outline
import Derived.Laws.BitsAllLaws
import Derived.IntWalk
import Derived.Lib.SmallJoins
import Derived.Lib.Hide
import Derived.Deep.DeepCutAuto
import Derived.LoopTactic
import Derived.Deep.RegionWith
import Derived.Laws.CopyOwn
import Derived.Maps.OwnOps
import Derived.Maps.OwnSet
import Derived.Laws.OwnMore
import Derived.Maps.AppendAt
import Derived.RangeFuncNested
import Derived.RangeFuncBound
import Derived.RangeFuncCalls
import Derived.RangeFuncLeaves
import Derived.RangeFuncBox
import Derived.RangeFuncFrom
import Derived.Shelf.Abstract
import Derived.Shelf.RegionOpen
import Derived.OwnWalkIn
import Derived.TacticsInMore
import Derived.LoopNIn
import Derived.LoopIn
import Derived.Deep.RegionHeld3
import Derived.RegionTactic
import Derived.ChangeAlike
import Derived.Deep.RegionLaw
import Derived.Deep.AppendLies
namespace Go.Proofs.YtbefkngeffpokaaDoor
set_option linter.unusedVariables false
set_option linter.unusedSimpArgs false
open Go.RowKit

theorem radd_bad (C D : Int) (K M : Nat) (o p : Option Addr) (cap cap' : Nat) (w : World) (c : Int) (h0 : c ≠ 0) (hck : ∀ W, Below w.heap.size w W → Calls Tryd.prog 36 #[mv C o K cap, mv D p M cap'] W fun e w' => e = .returned (.int .i64 c) ∧ Below W.heap.size W w') :
    Calls Tryd.prog 23 #[mv C o K cap, mv D p M cap'] w (MRes 0 0 (fun _ => 0) c w) := by
  have g1 : (c != 0) = true := by rw [bne_iff_ne]; exact h0
  obtain ⟨f1, f2, f4, f3⟩ := w3_facts w C o K cap D p M cap'
  obtain ⟨S, hS⟩ : ∃ n, w.heap.size = n := ⟨_, rfl⟩
  have H := Lib.hid (hck _ f1)
  have HB := Lib.hid f1
  have HR := Lib.hid f3
  unfold mv at H ⊢
  clear hck h0 f1 f2 f3 f4
  go_enter Tryd.func23, Tryd.ntmps23
  go_wp2_with fail
  refine H.out.mono ?_
  rintro e W1 ⟨rfl, hb1⟩
  have hr1 := HR.out.below hb1 HR.out.lt
  rw [hS] at hr1
  have d0 := hr1.cell 0
  have d1 := hr1.cell 1
  have g0 := hr1.open_ 0
  have g2 := hr1.open_ 1
  have hfb := (hr1.set 0 (.int .i64 0)).set 1 (.slice none 0 0)
  have hfw := ((HB.out.trans (Joins.below_le hb1 HB.out.size)).setCell (p := ⟨S + 1 + 1, 0, none⟩) (by show w.heap.size ≤ S + 1 + 1; omega) (.int .i64 0)).setCell (p := ⟨S + 1 + 1, 1, none⟩) (by show w.heap.size ≤ S + 1 + 1; omega) (.slice none 0 0)
  have HFB := Lib.hid hfb
  have HFW := Lib.hid hfw
  clear hb1 hr1 hfb hfw
  go_wp2_with fail
  have z0 := HFB.out.cell 0
  have z1 := HFB.out.cell 1
  simp at z0 z1
  refine bodyPost_ret (v := .tuple #[.agg #[.int .i64 0, .slice none 0 0], .int .i64 c]) (by simp [results, Tryd.results23, go_sem, z0, z1]) rfl ⟨_, _, rfl, Mn.nil _ _ _ _, ?_⟩
  first | exact HFW.out | (rw [hS]; have h := HFW.out; rwa [hS] at h)

theorem radd_shape (C D : Int) (K M : Nat) (o p : Option Addr) (cap cap' : Nat) (w : World) (h0 : C ≠ D ∨ K ≠ M) (hK : K ≤ 1000000000) (hM : M ≤ 1000000000) (hck : ∀ W, Below w.heap.size w W → Calls Tryd.prog 36 #[mv C o K cap, mv D p M cap'] W fun e w' => e = .returned (.int .i64 0) ∧ Below W.heap.size W w') :
    Calls Tryd.prog 23 #[mv C o K cap, mv D p M cap'] w (MRes 0 0 (fun _ => 0) 15 w) := by
  have key : ∀ q : Bool, (C != D) = q → (q = true ∨ ((K : Int) != (M : Int)) = true) → Calls Tryd.prog 23 #[mv C o K cap, mv D p M cap'] w (MRes 0 0 (fun _ => 0) 15 w) := by
    intro q hq hq2
    obtain ⟨f1, f2, f4, f3⟩ := w3_facts w C o K cap D p M cap'
    obtain ⟨S, hS⟩ : ∃ n, w.heap.size = n := ⟨_, rfl⟩
    have H := Lib.hid (hck _ f1)
    have HB := Lib.hid f1
    have HA := Lib.hid f2
    have HC := Lib.hid f4
    have HR := Lib.hid f3
    have Hq2 := Lib.hid hq2
    unfold mv at H ⊢
    clear hck h0 f1 f2 f3 f4 hq2
    cases q
    · have g5 : ((K : Int) != (M : Int)) = true := by
        rcases Hq2.out with h | h
        · exact absurd h (by simp)
        · exact h
      clear Hq2
      go_enter Tryd.func23, Tryd.ntmps23
      go_wp2_with fail
      refine H.out.mono ?_
      rintro e W1 ⟨rfl, hb1⟩
      have hr1 := HR.out.below hb1 HR.out.lt
      have ha1 := HA.out.below hb1 HA.out.lt
      have hc1 := HC.out.below hb1 HC.out.lt
      rw [hS] at hr1 ha1 hc1
      have q0 := ha1.cell 0
      have q1 := ha1.cell 1
      have q2 := hc1.cell 0
      have q3 := hc1.cell 1
      have d0 := hr1.cell 0
      have d1 := hr1.cell 1
      have g0 := hr1.open_ 0
      have g2 := hr1.open_ 1
      have hfb := (hr1.set 0 (.int .i64 0)).set 1 (.slice none 0 0)
      have hfw := ((HB.out.trans (Joins.below_le hb1 HB.out.size)).setCell (p := ⟨S + 1 + 1, 0, none⟩) (by show w.heap.size ≤ S + 1 + 1; omega) (.int .i64 0)).setCell (p := ⟨S + 1 + 1, 1, none⟩) (by show w.heap.size ≤ S + 1 + 1; omega) (.slice none 0 0)
      have HFB := Lib.hid hfb
      have HFW := Lib.hid hfw
      clear hb1 hr1 hfb hfw ha1 hc1
      go_wp2_with fail
      have z0 := HFB.out.cell 0
      have z1 := HFB.out.cell 1
      simp at z0 z1
      refine bodyPost_ret (v := .tuple #[.agg #[.int .i64 0, .slice none 0 0], .int .i64 15]) (by simp [results, Tryd.results23, go_sem, z0, z1]) rfl ⟨_, _, rfl, Mn.nil _ _ _ _, ?_⟩
      first | exact HFW.out | (rw [hS]; have h := HFW.out; rwa [hS] at h)

    · clear Hq2
      go_enter Tryd.func23, Tryd.ntmps23
      go_wp2_with fail
      refine H.out.mono ?_
      rintro e W1 ⟨rfl, hb1⟩
      have hr1 := HR.out.below hb1 HR.out.lt
      have ha1 := HA.out.below hb1 HA.out.lt
      have hc1 := HC.out.below hb1 HC.out.lt
      rw [hS] at hr1 ha1 hc1
      have q0 := ha1.cell 0
      have q2 := hc1.cell 0
      have d0 := hr1.cell 0
      have d1 := hr1.cell 1
      have g0 := hr1.open_ 0
      have g2 := hr1.open_ 1
      have hfb := (hr1.set 0 (.int .i64 0)).set 1 (.slice none 0 0)
      have hfw := ((HB.out.trans (Joins.below_le hb1 HB.out.size)).setCell (p := ⟨S + 1 + 1, 0, none⟩) (by show w.heap.size ≤ S + 1 + 1; omega) (.int .i64 0)).setCell (p := ⟨S + 1 + 1, 1, none⟩) (by show w.heap.size ≤ S + 1 + 1; omega) (.slice none 0 0)
      have HFB := Lib.hid hfb
      have HFW := Lib.hid hfw
      clear hb1 hr1 hfb hfw ha1 hc1
      go_wp2_with fail
      have z0 := HFB.out.cell 0
      have z1 := HFB.out.cell 1
      simp at z0 z1
      refine bodyPost_ret (v := .tuple #[.agg #[.int .i64 0, .slice none 0 0], .int .i64 15]) (by simp [results, Tryd.results23, go_sem, z0, z1]) rfl ⟨_, _, rfl, Mn.nil _ _ _ _, ?_⟩
      first | exact HFW.out | (rw [hS]; have h := HFW.out; rwa [hS] at h)

  refine key _ rfl ?_
  rcases h0 with h | h
  · left; rw [bne_iff_ne]; exact h
  · right; rw [bne_iff_ne]; omega
set_option maxRecDepth 100000 in
set_option maxHeartbeats 8000000 in
theorem radd_good (C K : Nat) (hC : C ≤ 31) (hK : K ≤ 31) (a b : Nat → Nat) (o p : Option Addr) (cap cap' : Nat) (w : World) (hM : Mx w o K C a) (hM' : Mx w p K C b) (hck : ∀ W, Below w.heap.size w W → Calls Tryd.prog 36 #[mv (C : Int) o K cap, mv (C : Int) p K cap'] W fun e w' => e = .returned (.int .i64 0) ∧ Below W.heap.size W w') :
    Calls Tryd.prog 23 #[mv (C : Int) o K cap, mv (C : Int) p K cap'] w (MRes C K (fun i => a i ^^^ b i) 0 w) := by
  obtain ⟨f1, f2, f4, f3⟩ := w3_facts w (C : Int) o K cap (C : Int) p K cap'
  obtain ⟨S, hS⟩ : ∃ n, w.heap.size = n := ⟨_, rfl⟩
  have H := Lib.hid (hck _ f1)
  have HB := Lib.hid f1
  have HA := Lib.hid f2
  have HC := Lib.hid f4
  have HR := Lib.hid f3
  have HM := Lib.hid hM
  have HM' := Lib.hid hM'
  unfold mv at H ⊢
  clear hM hM' hck f1 f2 f3 f4
  go_enter Tryd.func23, Tryd.ntmps23
  go_wp2_with fail
  refine H.out.mono ?_
  rintro e W1 ⟨rfl, hb1⟩
  have hr1 := HR.out.below hb1 HR.out.lt
  have ha1 := HA.out.below hb1 HA.out.lt
  have hc1 := HC.out.below hb1 HC.out.lt
  rw [hS] at hr1 ha1 hc1
  have q0 := ha1.cell 0
  have q1 := ha1.cell 1
  have q2 := hc1.cell 0
  have q3 := hc1.cell 1
  have HB1 := Lib.hid (HB.out.trans (Joins.below_le hb1 HB.out.size))
  have HR1 := Lib.hid hr1
  have HA1 := Lib.hid ha1
  have HC1 := Lib.hid hc1
  clear hb1 hr1 ha1 hc1
  go_wp2_with fail
  obtain ⟨X, hX⟩ : ∃ x, W1.heap.size = x := ⟨_, rfl⟩
  obtain ⟨W, hW⟩ : ∃ W, W1.alloc (.cells #[.int .i64 (C : Int), .slice none 0 0] 24) = W := ⟨_, rfl⟩
  have b1 : Below w.heap.size w W := by rw [← hW]; exact HB1.out.alloc HB1.out.size _
  have b2 : Box W S #[.int .i64 (C : Int), .slice o K cap] 24 := by rw [← hW]; exact HA1.out.alloc _
  have b3 : Box W (S + 1) #[.int .i64 (C : Int), .slice p K cap'] 24 := by rw [← hW]; exact HC1.out.alloc _
  have b4 : Box W (S + 1 + 1) #[.int .i64 0, .slice none 0 0] 24 := by rw [← hW]; exact HR1.out.alloc _
  have b5 : Box W X #[.int .i64 (C : Int), .slice none 0 0] 24 := by rw [← hW, ← hX]; exact Box.new _ _ _
  have b6 : S + 1 + 1 < X := by rw [← hX]; exact HR1.out.lt
  rw [hW, hX]
  have HBW := Lib.hid b1
  have HAW := Lib.hid b2
  have HCW := Lib.hid b3
  have HRW := Lib.hid b4
  have HOW := Lib.hid b5
  have HXS := Lib.hid b6
  have HS := Lib.hid hS
  clear hX hW b1 b2 b3 b4 b5 b6 q0 q1 q2 q3 hS
  obtain ⟨L, hL⟩ : ∃ L : Nat → List Int, (fun c => ints (el C (a c ^^^ b c))) = L := ⟨_, rfl⟩
  have HL := Lib.hid hL
  clear hL
  go_loopw [8] (fun j wr => ∃ (k : Nat) (v : Value) (vs : List Value), k ≤ K ∧ j = .int .i64 (k : Int) ∧ Out W wr X (C : Int) k L v vs) (fun j _ => K - (intOf j).toNat)
  case atStart => exact ⟨0, _, [], by omega, by first | trivial | rfl, HOW.out, Rws.nil _ _ _, Below.refl _ _⟩
  case round =>
    obtain ⟨k, v, vs, hk, rfl, ho⟩ := hrel
    have hxs := HXS.out
    have c0 := (HAW.out.below ho.bel (by omega)).cell 1
    have c1 := (HCW.out.below ho.bel (by omega)).cell 1
    have c3 := ho.box.cell 1
    have hob := ho.bel
    have HOu := Lib.hid ho
    by_cases hlt : k < K
    · have hk1 : (k : Int) < (K : Int) := by omega
      obtain ⟨bM, oM, oc, cpc, rfl, hbM, e1, l1⟩ := HM.out.at_ hlt
      obtain ⟨bN, oN, od, cpd, rfl, hbN, e3, l2⟩ := HM'.out.at_ hlt
      have hsS := HS.out
      have hbs : Below w.heap.size w wr := HBW.out.trans (ho.bel.mono (by omega))
      have e2 := (hbs.cell (p := ⟨bM, oM + k, none⟩) hbM).trans e1
      have e4 := (hbs.cell (p := ⟨bN, oN + k, none⟩) hbN).trans e3
      have hsum : ∀ V, Below wr.heap.size wr V → Calls Tryd.prog 38 #[.slice oc (el C (a k)).length cpc, .slice od (el C (b k)).length cpd] V fun e y => ∃ o1 n2 c1, e = .returned (.slice o1 n2 c1) ∧ Row y (X + 1) (.slice o1 n2 c1) (L k) ∧ Out W y X (C : Int) k L v vs ∧ ((Value.slice o1 n2 c1).ownBlock = none ∨ (Value.slice o1 n2 c1).ownBlock ≠ v.ownBlock) ∧ X + 1 ≤ y.heap.size := fun V hV => by
        have hbS : Below w.heap.size w V := hbs.trans (hV.mono hbs.size)
        refine (plus_ok (el C (a k)) (el C (b k)) (by have := el_len C (a k); have := el_len C (b k); omega) oc od cpc cpd V (l1.below hbS) (l2.below hbS)).mono ?_
        rintro e y ⟨u, rfl, hr, hb⟩
        have hoV := ho.below hV
        have hlV := hoV.box.lt
        have hLk : L k = ints (plus (el C (a k)) (el C (b k))) := by rw [plus_el, ← HL.out]
        rw [← hLk] at hr
        obtain ⟨o1, c1, rfl, _⟩ := hr.shape
        exact ⟨o1, _, c1, rfl, hr.le hlV, hoV.below hb, hoV.rws.new hr, by have := hb.size; omega⟩
      have HSum := Lib.hid hsum
      obtain ⟨n1, hn1⟩ : ∃ n, (el C (a k)).length = n := ⟨_, rfl⟩
      rw [hn1] at HSum e2
      obtain ⟨n3, hn3⟩ : ∃ n, (el C (b k)).length = n := ⟨_, rfl⟩
      rw [hn3] at HSum e4
      have HKa := Lib.hid hK
      clear e1 e3 l1 l2 hn1 hn3 hsum hbs hbM hbN hsS hxs ho
      go_wp2_with fail
      go_region_law (first | (go_simp; go_at_call 38; refine (HSum.out _ (by first | exact Below.refl _ _ | exact below_dn 1 (Below.refl _ _) | assumption)).mono ?_; rintro e y ⟨o1, n2, c2, rfl, hru, hou, hux, hsz⟩; have q3 : y.cell? ⟨X, 1, none⟩ = some v := hou.box.cell 1; have q5 : ∀ ob, (y.alloc ob).cell? ⟨X, 1, none⟩ = some v := fun ob => (hou.box.alloc ob).cell 1; have hbel1 := hou.bel; dsimp only) | (refine step_app _ rfl (.tmp 42) (.tmp 54) rfl (X + 1) v k vs L (.slice o1 n2 c2) _ rfl (hou.rws.below (by first | exact Below.refl _ _ | exact (Below.refl _ _).alloc (Nat.le_refl _) _ | exact below_dn 1 ((Below.refl _ _).alloc (Nat.le_refl _) _) | exact (below_dn 1 (Below.refl _ _)).alloc (Nat.le_refl _) _)) (Row.below hru (by first | exact Below.refl _ _ | exact (Below.refl _ _).alloc (Nat.le_refl _) _ | exact below_dn 1 ((Below.refl _ _).alloc (Nat.le_refl _) _) | exact (below_dn 1 (Below.refl _ _)).alloc (Nat.le_refl _) _)) hux rfl (news_one _ _ _) (by have := HKa.out; omega) (by simp; omega) ?_; intro g cv w1 hr1 hb1; have ho1 := hou.app (by first | exact Below.refl _ _ | exact (Below.refl _ _).alloc (Nat.le_refl _) _ | exact below_dn 1 ((Below.refl _ _).alloc (Nat.le_refl _) _) | exact (below_dn 1 (Below.refl _ _)).alloc (Nat.le_refl _) _) hr1 hb1; have q4 := ho1.box.cell 1; have g4 := ho1.box.open_ 1; have hbel2 := ho1.bel))
      all_goals
        go_wp2_with fail
        go_roundw
        case rel => exact ⟨k + 1, _, _, by omega, by go_num, Out1.fin (by assumption)⟩
        case measure => simp [intOf]; omega
    · have e : K = k := by omega
      subst e
      have hr1 := HRW.out.below hob (by omega)
      have d0 := hr1.cell 0
      have d1 := hr1.cell 1
      have g0 := hr1.open_ 0
      have g2 := hr1.open_ 1
      have c4 := ho.box.cell 0
      obtain ⟨ov, cv, rfl, _⟩ := ho.rws.ls
      have hsS := HS.out
      have hfb := (hr1.set 0 (.int .i64 (C : Int))).set 1 (.slice ov K cv)
      have hfr := ((ho.rws.set (b := S + 1 + 1) (i := 0) (by omega) (.int .i64 (C : Int))).set (b := S + 1 + 1) (i := 1) (by omega) (.slice ov K cv))
      have hfw := (((HBW.out.trans (hob.mono (by omega))).setCell (p := ⟨S + 1 + 1, 0, none⟩) (by show w.heap.size ≤ S + 1 + 1; omega) (.int .i64 (C : Int))).setCell (p := ⟨S + 1 + 1, 1, none⟩) (by show w.heap.size ≤ S + 1 + 1; omega) (.slice ov K cv))
      have HFB := Lib.hid hfb
      rw [← HL.out] at hfr
      have hmx : Mn w.heap.size _ ov K cv C (fun i => a i ^^^ b i) := ⟨vs, hfr.le (by omega)⟩
      have HMX := Lib.hid hmx
      have HFW := Lib.hid hfw
      clear hlt hxs ho hob hfb hfr hfw hmx hr1 hsS
      go_wp2_with fail
      have z0 := HFB.out.cell 0
      have z1 := HFB.out.cell 1
      simp at z0 z1
      refine bodyPost_ret (v := .tuple #[.agg #[.int .i64 (C : Int), .slice ov K cv], .int .i64 0]) (by simp [results, Tryd.results23, go_sem, z0, z1]) rfl ⟨_, _, rfl, HMX.out, HFW.out⟩

end Go.Proofs.YtbefkngeffpokaaDoor
