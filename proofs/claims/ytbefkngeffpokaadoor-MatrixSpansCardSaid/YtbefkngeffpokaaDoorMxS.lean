/- The package's Add. -/
import Derived.Test.YtbefkngeffpokaaDoorMxJ
import Derived.Test.YtbefkngeffpokaaDoorMxO
import Derived.Test.YtbefkngeffpokaaDoorMxQ
import Derived.WalkKit
import Derived.WalkSpells
import Derived.WalkLawsBesides
import Derived.Handy
import Derived.Deep.QuietTactic
import Derived.BigQuiet
import Derived.Outline
import Derived.Laws.BitsAllLaws
import Derived.IntWalk
import Derived.Lib.SmallJoins
import Derived.Lib.Hide
import Derived.Deep.DeepCutAuto
import Derived.LoopTactic
import Derived.Deep.RegionWith
import Derived.Laws.CopyOwn
import Derived.Maps.OwnOps
import Derived.Maps.OwnSet
import Derived.Laws.OwnMore
import Derived.Maps.AppendAt
import Derived.RangeFuncNested
import Derived.RangeFuncBound
import Derived.RangeFuncCalls
import Derived.RangeFuncLeaves
import Derived.RangeFuncBox
import Derived.RangeFuncFrom
import Derived.Shelf.Abstract
import Derived.Shelf.RegionOpen
import Derived.OwnWalkIn
import Derived.TacticsInMore
import Derived.LoopNIn
import Derived.LoopIn
import Derived.Deep.RegionHeld3
import Derived.RegionTactic
import Derived.ChangeAlike
import Derived.Deep.RegionLaw
import Derived.Deep.AppendLies
namespace Go.Proofs.YtbefkngeffpokaaDoor
set_option linter.unusedVariables false
set_option linter.unusedSimpArgs false
open Go.RowKit

theorem Out.kept {W V V' : World} {X k b : Nat} {C : Int} {L : Nat → List Int} {v : Value} {vs : List Value} (h : Out W V X C k L v vs) (hk : Kept (some b) V.heap.size V V') (hb : b < X) : Out V' V' X C k L v vs :=
  ⟨(hk.block X h.box.lt (fun e => by cases e; omega)).trans h.box, ⟨own_keep h.rws.own fun j hj hj2 => hk.block j hj2 (fun e => by cases e; omega), fun c hc => by
    obtain ⟨u, h1, h2, h3⟩ := h.rws.rows c hc
    exact ⟨u, h1, own_keep h2 fun j hj hj2 => hk.block j hj2 (fun e => by cases e; omega), h3⟩⟩, Below.refl _ _⟩
theorem Out.self {W V : World} {X k : Nat} {C : Int} {L : Nat → List Int} {v : Value} {vs : List Value} (h : Out W V X C k L v vs) : Out V V X C k L v vs := ⟨h.box, h.rws, Below.refl _ _⟩
set_option maxRecDepth 100000 in
set_option maxHeartbeats 8000000 in
theorem add_good (C K : Nat) (hC : C ≤ 31) (hK : K ≤ 31) (a b : Nat → Nat) (ha : ∀ c, c < K → a c < 2 ^ C) (hb : ∀ c, c < K → b c < 2 ^ C) (o p : Option Addr) (cap cap' : Nat) (w : World) (hT : Tb w) (hM : Mx w o K C a) (hM' : Mx w p K C b) (hck : ∀ W, Below w.heap.size w W → Calls Tryd.prog 51 #[mv (C : Int) o K cap, mv (C : Int) p K cap'] W fun e w' => e = .returned (.int .i64 0) ∧ Below W.heap.size W w') :
    Calls Tryd.prog 22 #[mv (C : Int) o K cap, mv (C : Int) p K cap'] w (MRes C K (fun i => a i ^^^ b i) 0 w) := by
  obtain ⟨f1, f2, f4, f3⟩ := w3_facts w (C : Int) o K cap (C : Int) p K cap'
  obtain ⟨S, hS⟩ : ∃ n, w.heap.size = n := ⟨_, rfl⟩
  have H := Lib.hid (hck _ f1)
  have HNb := Lib.hid (fun W => newbits_ok C (by omega) W)
  have HB := Lib.hid f1
  have HA := Lib.hid f2
  have HC := Lib.hid f4
  have HR := Lib.hid f3
  have HM := Lib.hid hM
  have HM' := Lib.hid hM'
  have HT := Lib.hid hT
  have Ha := Lib.hid ha
  have Hb := Lib.hid hb
  unfold mv at H ⊢
  clear hM hM' hck f1 f2 f3 f4 hT ha hb
  go_enter Tryd.func22, Tryd.ntmps22
  go_wp2_with fail
  refine H.out.mono ?_
  rintro e W1 ⟨rfl, hb1⟩
  have hr1 := HR.out.below hb1 HR.out.lt
  have ha1 := HA.out.below hb1 HA.out.lt
  have hc1 := HC.out.below hb1 HC.out.lt
  rw [hS] at hr1 ha1 hc1
  have q0 := ha1.cell 0
  have q1 := ha1.cell 1
  have q2 := hc1.cell 0
  have q3 := hc1.cell 1
  have HB1 := Lib.hid (HB.out.trans (Joins.below_le hb1 HB.out.size))
  have HR1 := Lib.hid hr1
  have HA1 := Lib.hid ha1
  have HC1 := Lib.hid hc1
  clear hb1 hr1 ha1 hc1
  go_wp2_with fail
  refine (HNb.out _).mono ?_
  rintro e W2 ⟨rfl, hbx, hb2⟩
  have hr1 := HR1.out.below hb2 HR1.out.lt
  have ha1 := HA1.out.below hb2 HA1.out.lt
  have hc1 := HC1.out.below hb2 HC1.out.lt
  have q0 := ha1.cell 0
  have q1 := ha1.cell 1
  have HB2 := Lib.hid (HB1.out.trans (Joins.below_le hb2 HB1.out.size))
  have HR2 := Lib.hid hr1
  have HA2 := Lib.hid ha1
  have HC2 := Lib.hid hc1
  have HBv := Lib.hid hbx
  have HSv := Lib.hid (show S + 1 + 1 < W1.heap.size from HR1.out.lt)
  have q5 : ∀ ob, (W2.alloc ob).cell? ⟨S, 1, none⟩ = some (.slice o K cap) := fun ob => (ha1.alloc ob).cell 1
  clear hb2 hr1 ha1 hc1 hbx
  go_wp2_with fail
  obtain ⟨X, hX⟩ : ∃ x, W2.heap.size = x := ⟨_, rfl⟩
  obtain ⟨bv, hbv⟩ : ∃ x, W1.heap.size = x := ⟨_, rfl⟩
  obtain ⟨W, hW⟩ : ∃ W, W2.alloc (.cells #[.int .i64 (C : Int), .slice none 0 0] 24) = W := ⟨_, rfl⟩
  have b1 : Below w.heap.size w W := by rw [← hW]; exact HB2.out.alloc HB2.out.size _
  have b2 : Box W S #[.int .i64 (C : Int), .slice o K cap] 24 := by rw [← hW]; exact HA2.out.alloc _
  have b3 : Box W (S + 1) #[.int .i64 (C : Int), .slice p K cap'] 24 := by rw [← hW]; exact HC2.out.alloc _
  have b4 : Box W (S + 1 + 1) #[.int .i64 0, .slice none 0 0] 24 := by rw [← hW]; exact HR2.out.alloc _
  have b5 : Box W X #[.int .i64 (C : Int), .slice none 0 0] 24 := by rw [← hW, ← hX]; exact Box.new _ _ _
  have b6 : S + 1 + 1 < bv := by rw [← hbv]; exact HSv.out
  have b7 : bv < X := by rw [← hbv, ← hX]; exact Box.lt HBv.out
  have b8 : Bx W bv 0 := by rw [← hW, ← hbv]; exact Box.alloc HBv.out _
  rw [hW, hX, hbv]
  have HBW := Lib.hid b1
  have HAW := Lib.hid b2
  have HCW := Lib.hid b3
  have HRW := Lib.hid b4
  have HOW := Lib.hid b5
  have HXS := Lib.hid b6
  have HXB := Lib.hid b7
  have HVW := Lib.hid b8
  have HS := Lib.hid hS
  clear hX hW hbv b1 b2 b3 b4 b5 b6 b7 b8 q0 q1 q2 q3 q5 hS
  obtain ⟨L, hL⟩ : ∃ L : Nat → List Int, (fun c => ints (el C (a c ^^^ b c))) = L := ⟨_, rfl⟩
  have HL := Lib.hid hL
  clear hL
  go_loopw [41] (fun j wr => ∃ (k : Nat) (v : Value) (vs : List Value) (s : Nat), k ≤ K ∧ j = .int .i64 (k : Int) ∧ Out wr wr X (C : Int) k L v vs ∧ Bx wr bv s ∧ Kept (some bv) X W wr) (fun j _ => K - (intOf j).toNat)
  case atStart => exact ⟨0, _, [], 0, by omega, by first | trivial | rfl, ⟨HOW.out, Rws.nil _ _ _, Below.refl _ _⟩, HVW.out, Kept.refl _ _ _⟩
  case round =>
    obtain ⟨k, v, vs, sx, hk, rfl, ho, hbx, hkp⟩ := hrel
    have hxs := HXS.out
    have hxb := HXB.out
    have hsS := HS.out
    have hbW : ∀ V, Kept (some bv) X W V → Below w.heap.size w V := fun V hV => HBW.out.trans ((hV.le (by omega)).below (fun j hj => by cases hj; omega))
    by_cases hlt : k < K
    · have hk1 : (k : Int) < (K : Int) := by omega
      obtain ⟨bM, oM, oc, cpc, rfl, hbM, e1, l1⟩ := HM.out.at_ hlt
      obtain ⟨bN, oN, od, cpd, rfl, hbN, e3, l2⟩ := HM'.out.at_ hlt
      have h32 : ∀ y, y < 2 ^ C → y < 4294967296 := fun y hy => Nat.lt_of_lt_of_le hy (Nat.le_trans (Nat.pow_le_pow_right (n := 2) (by omega) (show C ≤ 32 by omega)) (by omega))
      have hak := Ha.out k hlt
      have hbk := Hb.out k hlt
      have hf1 : ∀ V, Kept (some bv) X W V → Bx V bv 0 → Calls Tryd.prog 47 #[.slice (some ⟨bv, 0, none⟩) 1 1, .slice oc (el C (a k)).length cpc] V fun e y => e = .returned (.tuple #[]) ∧ Bx y bv (a k) ∧ Kept (some bv) V.heap.size V y := fun V hV hx => by
        have h := flipall_ok bv 0 (by omega) (el C (a k)) (fun i hi => by have := (el_mem.1 hi).1; omega) (by have := el_len C (a k); omega) oc cpc V hx (l1.below (hbW V hV)) (fun hn g off e => by have := l1.blk hn e; omega)
        have e0 : flips 0 (el C (a k)) = a k := msk_el hak
        rwa [e0] at h
      have hf2 : ∀ V, Kept (some bv) X W V → Bx V bv (a k) → Calls Tryd.prog 47 #[.slice (some ⟨bv, 0, none⟩) 1 1, .slice od (el C (b k)).length cpd] V fun e y => e = .returned (.tuple #[]) ∧ Bx y bv (a k ^^^ b k) ∧ Kept (some bv) V.heap.size V y := fun V hV hx => by
        have h := flipall_ok bv (a k) (h32 _ hak) (el C (b k)) (fun i hi => by have := (el_mem.1 hi).1; omega) (by have := el_len C (b k); omega) od cpd V hx (l2.below (hbW V hV)) (fun hn g off e => by have := l2.blk hn e; omega)
        rwa [flips_eq, msk_el hbk] at h
      have hsum : ∀ w3, Out w3 w3 X (C : Int) k L v vs → Bx w3 bv (a k ^^^ b k) → Kept (some bv) X W w3 → ∀ V, Below w3.heap.size w3 V → Calls Tryd.prog 53 #[.slice (some ⟨bv, 0, none⟩) 1 1, .int .i64 (C : Int)] V fun e y => ∃ o1 n2 c1, e = .returned (.slice o1 n2 c1) ∧ Row y (X + 1) (.slice o1 n2 c1) (L k) ∧ Out w3 y X (C : Int) k L v vs ∧ ((Value.slice o1 n2 c1).ownBlock = none ∨ (Value.slice o1 n2 c1).ownBlock ≠ v.ownBlock) ∧ X + 1 ≤ y.heap.size := fun w3 h3 hx3 hk3 V hV => by
        have hTV : Tb V := HT.out.here ((hbW w3 hk3).trans (hV.mono (hbW w3 hk3).size))
        refine (list_ok bv (a k ^^^ b k) C (h32 _ (Nat.xor_lt_two_pow hak hbk)) hC V (Bx.below hx3 hV (Box.lt hx3)) hTV).mono ?_
        rintro e y ⟨u, rfl, hr, hb⟩
        have hoV := h3.below hV
        have hlV := hoV.box.lt
        have hLk : L k = ints (el C (a k ^^^ b k)) := by rw [← HL.out]
        rw [← hLk] at hr
        obtain ⟨o1, c1, rfl, _⟩ := hr.shape
        exact ⟨o1, _, c1, rfl, hr.le hlV, hoV.below hb, hoV.rws.new hr, by have := hb.size; omega⟩
      obtain ⟨n1, hn1⟩ : ∃ n, (el C (a k)).length = n := ⟨_, rfl⟩
      obtain ⟨n3, hn3⟩ : ∃ n, (el C (b k)).length = n := ⟨_, rfl⟩
      rw [hn1] at hf1 e1
      rw [hn3] at hf2 e3
      have HZ : Hid (∀ V, Kept (some bv) X W V → V.cell? ⟨S, 0, none⟩ = some (.int .i64 (C : Int)) ∧ V.cell? ⟨S, 1, none⟩ = some (.slice (some ⟨bM, oM, none⟩) K cap) ∧ V.cell? ⟨S + 1, 1, none⟩ = some (.slice (some ⟨bN, oN, none⟩) K cap') ∧ V.cell? ⟨bM, oM + k, none⟩ = some (.slice oc n1 cpc) ∧ V.cell? ⟨bN, oN + k, none⟩ = some (.slice od n3 cpd)) := Lib.hid fun V hV => by
        have hA : Box V S _ _ := (hV.block S (by omega) (fun e => by cases e; omega)).trans HAW.out
        have hC' : Box V (S + 1) _ _ := (hV.block (S + 1) (by omega) (fun e => by cases e; omega)).trans HCW.out
        exact ⟨hA.cell 0, hA.cell 1, hC'.cell 1, ((hbW V hV).cell (p := ⟨bM, oM + k, none⟩) hbM).trans e1, ((hbW V hV).cell (p := ⟨bN, oN + k, none⟩) hbN).trans e3⟩
      have HF1 := Lib.hid hf1
      have HF2 := Lib.hid hf2
      have HSu := Lib.hid hsum
      have HCl := Lib.hid (clear_ok bv sx wr hbx)
      have HOu := Lib.hid ho
      have HKp := Lib.hid hkp
      have HKa := Lib.hid hK
      have HXl := Lib.hid ho.box.lt
      clear e1 e3 l1 l2 hn1 hn3 hsum hf1 hf2 h32 hak hbk hbM hbN hsS hxs hxb ho hbx hkp hbW
      go_wp2_with fail
      refine HCl.out.mono ?_
      rintro e y1 ⟨rfl, hb1, hk1⟩
      have HK1 := Lib.hid (HKp.out.trans (hk1.le (Nat.le_of_lt HXl.out)))
      have HJ1 := Lib.hid hk1
      have HV1 := Lib.hid hb1
      obtain ⟨z1, z2, z3, z4, z5⟩ := HZ.out _ HK1.out
      clear hb1 hk1
      go_wp2_with fail
      refine (HF1.out _ HK1.out HV1.out).mono ?_
      rintro e y2 ⟨rfl, hb1, hk1⟩
      have HK2 := Lib.hid (HK1.out.trans (hk1.le (Nat.le_trans (Nat.le_of_lt HXl.out) HJ1.out.size)))
      have HJ2 := Lib.hid (HJ1.out.trans (hk1.le HJ1.out.size))
      have HV2 := Lib.hid hb1
      clear z1 z2 z3 z4 z5
      obtain ⟨z1, z2, z3, z4, z5⟩ := HZ.out _ HK2.out
      clear hb1 hk1
      go_wp2_with fail
      refine (HF2.out _ HK2.out HV2.out).mono ?_
      rintro e y3 ⟨rfl, hb1, hk1⟩
      have HK3 := Lib.hid (HK2.out.trans (hk1.le (Nat.le_trans (Nat.le_of_lt HXl.out) HJ2.out.size)))
      have HJ3 := Lib.hid (HJ2.out.trans (hk1.le HJ2.out.size))
      have HV3 := Lib.hid hb1
      have HO3 := Lib.hid (HOu.out.kept HJ3.out HXB.out)
      have HSum := Lib.hid (HSu.out _ HO3.out HV3.out HK3.out)
      clear z1 z2 z3 z4 z5
      obtain ⟨z1, z2, z3, z4, z5⟩ := HZ.out _ HK3.out
      have z6 := HO3.out.box.cell 1
      clear hb1 hk1
      go_wp2_with fail
      go_region_law (first | (go_simp; go_at_call 53; refine (HSum.out _ (by first | exact Below.refl _ _ | exact below_dn 1 (Below.refl _ _) | assumption)).mono ?_; rintro e y ⟨o1, n2, c2, rfl, hru, hou, hux, hsz⟩; have q3 : y.cell? ⟨X, 1, none⟩ = some v := hou.box.cell 1; have q5 : ∀ ob, (y.alloc ob).cell? ⟨X, 1, none⟩ = some v := fun ob => (hou.box.alloc ob).cell 1; have hbel1 := hou.bel; dsimp only) | (refine step_app _ rfl (.tmp 61) (.tmp 66) rfl (X + 1) v k vs L (.slice o1 n2 c2) _ rfl (hou.rws.below (by first | exact Below.refl _ _ | exact (Below.refl _ _).alloc (Nat.le_refl _) _ | exact below_dn 1 ((Below.refl _ _).alloc (Nat.le_refl _) _) | exact (below_dn 1 (Below.refl _ _)).alloc (Nat.le_refl _) _)) (Row.below hru (by first | exact Below.refl _ _ | exact (Below.refl _ _).alloc (Nat.le_refl _) _ | exact below_dn 1 ((Below.refl _ _).alloc (Nat.le_refl _) _) | exact (below_dn 1 (Below.refl _ _)).alloc (Nat.le_refl _) _)) hux rfl (news_one _ _ _) (by have := HKa.out; omega) (by simp; omega) ?_; intro g cv w9 hr1 hb1; have ho1 := hou.app (by first | exact Below.refl _ _ | exact (Below.refl _ _).alloc (Nat.le_refl _) _ | exact below_dn 1 ((Below.refl _ _).alloc (Nat.le_refl _) _) | exact (below_dn 1 (Below.refl _ _)).alloc (Nat.le_refl _) _) hr1 hb1; have q4 := ho1.box.cell 1; have g4 := ho1.box.open_ 1; have hbel2 := ho1.bel))
      all_goals
        have hfin := Out1.fin ho1
        have HFi := Lib.hid hfin
        clear hfin
        go_wp2_with fail
        go_roundw
        case rel => exact ⟨k + 1, _, _, _, by omega, by go_num, HFi.out.self, Bx.below HV3.out HFi.out.bel HXB.out, HK3.out.trans (Kept.of HFi.out.bel)⟩
        case measure => simp [intOf]; omega
    · have e : K = k := by omega
      subst e
      have hr1 : Box wr (S + 1 + 1) #[.int .i64 0, .slice none 0 0] 24 := (hkp.block (S + 1 + 1) (by omega) (fun e => by cases e; omega)).trans HRW.out
      have d0 := hr1.cell 0
      have d1 := hr1.cell 1
      have g0 := hr1.open_ 0
      have g2 := hr1.open_ 1
      have c3 := ho.box.cell 1
      have c4 := ho.box.cell 0
      obtain ⟨ov, cv, rfl, _⟩ := ho.rws.ls
      have hfb := (hr1.set 0 (.int .i64 (C : Int))).set 1 (.slice ov K cv)
      have hfr := ((ho.rws.set (b := S + 1 + 1) (i := 0) (by omega) (.int .i64 (C : Int))).set (b := S + 1 + 1) (i := 1) (by omega) (.slice ov K cv))
      have hfw := ((hbW _ hkp).setCell (p := ⟨S + 1 + 1, 0, none⟩) (by show w.heap.size ≤ S + 1 + 1; omega) (.int .i64 (C : Int))).setCell (p := ⟨S + 1 + 1, 1, none⟩) (by show w.heap.size ≤ S + 1 + 1; omega) (.slice ov K cv)
      have HFB := Lib.hid hfb
      rw [← HL.out] at hfr
      have hmx : Mn w.heap.size _ ov K cv C (fun i => a i ^^^ b i) := ⟨vs, hfr.le (by omega)⟩
      have HMX := Lib.hid hmx
      have HFW := Lib.hid hfw
      clear hlt hxs hxb ho hfb hfr hfw hmx hr1 hsS hbW hbx hkp
      go_wp2_with fail
      have z0 := HFB.out.cell 0
      have z1 := HFB.out.cell 1
      simp at z0 z1
      refine bodyPost_ret (v := .tuple #[.agg #[.int .i64 (C : Int), .slice ov K cv], .int .i64 0]) (by simp [results, Tryd.results22, go_sem, z0, z1]) rfl ⟨_, _, rfl, HMX.out, HFW.out⟩

end Go.Proofs.YtbefkngeffpokaaDoor
