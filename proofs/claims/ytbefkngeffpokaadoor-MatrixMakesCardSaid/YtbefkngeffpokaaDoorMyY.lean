/- MatrixMakes, whatever the matrix and the vector. -/
import Derived.Test.YtbefkngeffpokaaDoorMyW
import Derived.WalkKit
import Derived.WalkSpells
import Derived.WalkLawsBesides
import Derived.Handy
import Derived.Deep.QuietTactic
import Derived.BigQuiet
import Derived.Outline
import Derived.Laws.BitsAllLaws
import Derived.IntWalk
import Derived.Lib.SmallJoins
import Derived.Lib.Hide
import Derived.Deep.DeepCutAuto
import Derived.LoopTactic
import Derived.Deep.RegionWith
import Derived.Laws.CopyOwn
import Derived.Maps.OwnOps
import Derived.Maps.OwnSet
import Derived.Laws.OwnMore
import Derived.Maps.AppendAt
import Derived.RangeFuncNested
import Derived.RangeFuncBound
import Derived.RangeFuncCalls
import Derived.RangeFuncLeaves
import Derived.RangeFuncBox
import Derived.RangeFuncFrom
import Derived.Shelf.Abstract
import Derived.Shelf.RegionOpen
import Derived.OwnWalkIn
import Derived.TacticsInMore
import Derived.LoopNIn
import Derived.LoopIn
import Derived.Deep.RegionHeld3
import Derived.RegionTactic
import Derived.ChangeAlike
namespace Go.Proofs.YtbefkngeffpokaaDoor
set_option linter.unusedVariables false
set_option linter.unusedSimpArgs false
open Go.RowKit


set_option maxRecDepth 100000 in
set_option maxHeartbeats 8000000 in
theorem makes_ok (C : Int) (o : Option Addr) (K cap : Nat) (oc : Nat → Option Addr) (nc cc : Nat → Nat) (xc : Nat → Nat → Int) (n cp : Nat) (f : Nat → Int) (p : Option Addr) (w : World) (hL : Lv w o K oc nc cc xc) (hz : Lz w p n f) (hT : Tb1 w) :
    Calls Tryd.prog 3 #[mv C o K cap, .slice p n cp] w fun e w' => e = .returned (.bool true) ∧ Below w.heap.size w w' := by
  have hb2 : Below w.heap.size w ((w.alloc (.cells #[.int .i64 C, .slice o K cap] 24)).alloc (.cells #[.int .i64 C, .slice o K cap] 24)) := ((Below.refl _ _).alloc (Nat.le_refl _) _).alloc (by simp) _
  have HFw := Lib.hid (few_allq 1 (by omega) (w.heap.size + 1) (fun _ => C) (fun _ => o) (fun _ => K) (fun _ => cap) _ (by have h := mats_one (w.alloc (.cells #[.int .i64 C, .slice o K cap] 24)) C o K cap; rwa [World.size_alloc] at h) (fun _ => FewQ C K nc) (fun c hc W hW => few_q C K o cap oc nc cc xc W ((hL.below hb2).below hW)))
  have HB := Lib.hid hb2
  have HBx := Lib.hid ((mbox w C o K cap).alloc (.cells #[.int .i64 C, .slice o K cap] 24))
  have HT := Lib.hid hT
  have HCp := Lib.hid (fun (hq : FewQ C K nc) W (hW : Below w.heap.size w W) => check_pair C K o cap W ((mst_of hq hL).below hW))
  have HTp := Lib.hid (fun (hq : FewQ C K nc) W (hW : Below w.heap.size w W) => trans_pair C K o cap W ((mst_of hq hL).below hW))
  have HAp := Lib.hid (fun (hq : FewQ C K nc) (hn : n ≤ 1000) W (hW : Below w.heap.size w W) => applied_pair C K o p cap n cp f hn W ((mst_of hq hL).below hW) (hz.below hW))
  unfold mv at HCp HTp HAp ⊢
  clear hL hT hb2 hz
  go_enter Tryd.func3, Tryd.ntmps3
  go_wp2_with fail
  refine HFw.out.mono ?_
  rintro e W1 ⟨⟨r, rfl, hr⟩, hb1⟩
  have HB := Lib.hid (HB.out.trans (Joins.below_le hb1 HB.out.size))
  have XM := Lib.hid (HBx.out.below hb1 HBx.out.lt)
  have HR := Lib.hid hr
  have HT := Lib.hid (HT.out.here HB.out XM.out.lt)
  clear hb1 hr HBx HFw
  by_cases hok : r = true ∧ n ≤ 40
  · obtain ⟨rfl, hn⟩ := hok
    have k1 : ¬ (40 : Int) < (n : Int) := by omega
    have k3 : decide (40 < n) = false := decide_eq_false (by omega)
    have hq := HR.out rfl 0 (by omega)
    obtain ⟨N1, K1, r1, v1, hN1, hK1, he⟩ := HTp.out hq W1 HB.out
    obtain ⟨v2, he2⟩ := HCp.out hq W1 HB.out
    obtain ⟨m, g, v3, hm3, he3⟩ := HAp.out hq (by omega) W1 HB.out
    have HE := Lib.hid he
    have HCk := Lib.hid he2
    have HK := Lib.hid he3
    have HS1 := Lib.hid (fun (p q : Option Addr) (c d : Nat) W (h1 : Mx W p K1 N1 r1) (h2 : Mx W q K1 N1 r1) => same_mx (N1 : Int) N1 K1 hN1 hK1 r1 p q c d W h1 h2)
    have hs3 := fun (p q : Option Addr) (c d : Nat) W (h1 : Lz W p m g) (h2 : Lz W q m g) => equal_any m m hm3 g g p q c d W h1 h2
    rw [eqb_self fun i _ => rfl] at hs3
    have HS3 := Lib.hid hs3
    unfold mv at HS1
    have HU := Lib.hid (Below.refl W1.heap.size W1)
    clear he he2 he3 hq hN1 hK1 hm3 HR HTp HCp HAp hs3 hn
    have XM0 := XM.out.cell 0
    have XM1 := XM.out.cell 1
    have XM2 := fun ob => (XM.out.alloc ob).cell 0
    have XM3 := fun ob => (XM.out.alloc ob).cell 1
    go_wp2_with fail
    have hal : Below W1.heap.size W1 W1 := (Below.refl _ _)
    refine ((HE.out W1 (HU.out.trans (Joins.below_le hal HU.out.size))).1).mono ?_
    rintro e W2 ⟨o1, c1, rfl, hm, hb⟩
    have hbb : Below W1.heap.size W1 W2 := hal.trans (hb.mono hal.size)
    have M1 := Lib.hid (hm)
    have HB := Lib.hid (HB.out.trans (Joins.below_le hbb HB.out.size))
    have XM := Lib.hid (XM.out.below hbb XM.out.lt)
    have HT := Lib.hid (HT.out.here hbb)
    have HU := Lib.hid (HU.out.trans (Joins.below_le hbb HU.out.size))
    clear XM0 XM1 XM2 XM3
    clear hal hbb hb hm
    have XM0 := XM.out.cell 0
    have XM1 := XM.out.cell 1
    have XM2 := fun ob => (XM.out.alloc ob).cell 0
    have XM3 := fun ob => (XM.out.alloc ob).cell 1
    go_wp2_with fail
    have hal : Below W2.heap.size W2 (W2.alloc (.cells #[.int .i64 (N1 : Int), .slice o1 K1 c1] 24)) := ((Below.refl _ _).alloc (by first | exact Nat.le_refl _ | (simp; done) | (simp; omega)) _)
    refine ((HE.out (W2.alloc (.cells #[.int .i64 (N1 : Int), .slice o1 K1 c1] 24)) (HU.out.trans (Joins.below_le hal HU.out.size))).2).mono ?_
    rintro e W3 ⟨o2, c2, rfl, hm, hb⟩
    have hbb : Below W2.heap.size W2 W3 := hal.trans (hb.mono hal.size)
    have X1 := Lib.hid ((Box.new W2 #[.int .i64 (N1 : Int), .slice o1 K1 c1] 24).below hb (by simp))
    have M2 := Lib.hid (hm)
    have HB := Lib.hid (HB.out.trans (Joins.below_le hbb HB.out.size))
    have XM := Lib.hid (XM.out.below hbb XM.out.lt)
    have HT := Lib.hid (HT.out.here hbb)
    have HU := Lib.hid (HU.out.trans (Joins.below_le hbb HU.out.size))
    have M1 := Lib.hid (M1.out.below hbb)
    clear XM0 XM1 XM2 XM3
    clear hal hbb hb hm
    have XM0 := XM.out.cell 0
    have XM1 := XM.out.cell 1
    have XM2 := fun ob => (XM.out.alloc ob).cell 0
    have XM3 := fun ob => (XM.out.alloc ob).cell 1
    have X10 := X1.out.cell 0
    have X11 := X1.out.cell 1
    have X12 := fun ob => (X1.out.alloc ob).cell 0
    have X13 := fun ob => (X1.out.alloc ob).cell 1
    go_wp2_with fail
    have hal : Below W3.heap.size W3 (W3.alloc (.cells #[.int .i64 (N1 : Int), .slice o2 K1 c2] 24)) := ((Below.refl _ _).alloc (by first | exact Nat.le_refl _ | (simp; done) | (simp; omega)) _)
    refine ((HK.out (W3.alloc (.cells #[.int .i64 (N1 : Int), .slice o2 K1 c2] 24)) (HU.out.trans (Joins.below_le hal HU.out.size))).1).mono ?_
    rintro e W4 ⟨o3, c3, rfl, hm, hb⟩
    have hbb : Below W3.heap.size W3 W4 := hal.trans (hb.mono hal.size)
    have X2 := Lib.hid ((Box.new W3 #[.int .i64 (N1 : Int), .slice o2 K1 c2] 24).below hb (by simp))
    have L3 := Lib.hid (hm)
    have HB := Lib.hid (HB.out.trans (Joins.below_le hbb HB.out.size))
    have XM := Lib.hid (XM.out.below hbb XM.out.lt)
    have HT := Lib.hid (HT.out.here hbb)
    have HU := Lib.hid (HU.out.trans (Joins.below_le hbb HU.out.size))
    have M1 := Lib.hid (M1.out.below hbb)
    have X1 := Lib.hid (X1.out.below hbb X1.out.lt)
    have M2 := Lib.hid (M2.out.below hbb)
    clear XM0 XM1 XM2 XM3 X10 X11 X12 X13
    clear hal hbb hb hm
    have XM0 := XM.out.cell 0
    have XM1 := XM.out.cell 1
    have XM2 := fun ob => (XM.out.alloc ob).cell 0
    have XM3 := fun ob => (XM.out.alloc ob).cell 1
    have X10 := X1.out.cell 0
    have X11 := X1.out.cell 1
    have X12 := fun ob => (X1.out.alloc ob).cell 0
    have X13 := fun ob => (X1.out.alloc ob).cell 1
    have X20 := X2.out.cell 0
    have X21 := X2.out.cell 1
    have X22 := fun ob => (X2.out.alloc ob).cell 0
    have X23 := fun ob => (X2.out.alloc ob).cell 1
    go_wp2_with fail
    have hal : Below W4.heap.size W4 W4 := (Below.refl _ _)
    refine ((HK.out W4 (HU.out.trans (Joins.below_le hal HU.out.size))).2).mono ?_
    rintro e W5 ⟨o4, c4, rfl, hm, hb⟩
    have hbb : Below W4.heap.size W4 W5 := hal.trans (hb.mono hal.size)
    have L4 := Lib.hid (hm)
    have HB := Lib.hid (HB.out.trans (Joins.below_le hbb HB.out.size))
    have XM := Lib.hid (XM.out.below hbb XM.out.lt)
    have HT := Lib.hid (HT.out.here hbb)
    have HU := Lib.hid (HU.out.trans (Joins.below_le hbb HU.out.size))
    have M1 := Lib.hid (M1.out.below hbb)
    have X1 := Lib.hid (X1.out.below hbb X1.out.lt)
    have M2 := Lib.hid (M2.out.below hbb)
    have X2 := Lib.hid (X2.out.below hbb X2.out.lt)
    have L3 := Lib.hid (L3.out.below hbb)
    clear XM0 XM1 XM2 XM3 X10 X11 X12 X13 X20 X21 X22 X23
    clear hal hbb hb hm
    have HZ : Hid (∀ V, Below W5.heap.size W5 V → Below W5.heap.size W5 V ∧ V.cell? ⟨w.heap.size, 0, none⟩ = some (.int .i64 C) ∧ V.cell? ⟨w.heap.size, 1, none⟩ = some (.slice o K cap) ∧ V.cell? ⟨W2.heap.size, 0, none⟩ = some (.int .i64 (N1 : Int)) ∧ V.cell? ⟨W2.heap.size, 1, none⟩ = some (.slice o1 K1 c1) ∧ V.cell? ⟨W3.heap.size, 0, none⟩ = some (.int .i64 (N1 : Int)) ∧ V.cell? ⟨W3.heap.size, 1, none⟩ = some (.slice o2 K1 c2)) := Lib.hid fun V hV => ⟨hV, (XM.out.below hV XM.out.lt).cell 0, (XM.out.below hV XM.out.lt).cell 1, (X1.out.below hV X1.out.lt).cell 0, (X1.out.below hV X1.out.lt).cell 1, (X2.out.below hV X2.out.lt).cell 0, (X2.out.below hV X2.out.lt).cell 1⟩
    have HW := Lib.hid (fun V (hV : Below W5.heap.size W5 V) => HB.out.trans (hV.mono HB.out.size))
    have HA := Lib.hid (fun V (hV : Below W5.heap.size W5 V) => awake_ok V (HT.out.here hV))
    have HC := Lib.hid (fun V (hV : Below W5.heap.size W5 V) => HCk.out V (HU.out.trans (Joins.below_le hV HU.out.size)))
    have HS := Lib.hid (fun V (hV : Below W5.heap.size W5 V) => HS1.out o1 o2 c1 c2 V (M1.out.below hV) (M2.out.below hV))
    have HQ := Lib.hid (fun V (hV : Below W5.heap.size W5 V) => HS3.out o3 o4 c3 c4 V (L3.out.below hV) (L4.out.below hV))
    go_wp2_with fail
    go_region_held3 (fun V => Below W5.heap.size W5 V ∧ V.cell? ⟨w.heap.size, 0, none⟩ = some (.int .i64 C) ∧ V.cell? ⟨w.heap.size, 1, none⟩ = some (.slice o K cap) ∧ V.cell? ⟨W2.heap.size, 0, none⟩ = some (.int .i64 (N1 : Int)) ∧ V.cell? ⟨W2.heap.size, 1, none⟩ = some (.slice o1 K1 c1) ∧ V.cell? ⟨W3.heap.size, 0, none⟩ = some (.int .i64 (N1 : Int)) ∧ V.cell? ⟨W3.heap.size, 1, none⟩ = some (.slice o2 K1 c2)) (first | exact HZ.out _ (below_dn 1 (Below.refl _ _)) | exact HZ.out _ (Below.refl _ _) | exact HZ.out _ (by assumption)) (first
      | (go_at_call 13; refine (HA.out _ (by first | assumption | exact And.left (by assumption) | exact Below.refl _ _ | exact below_dn 1 (Below.refl _ _))).mono ?_; rintro e y ⟨rfl, hz1⟩; have kk1 : Below W5.heap.size W5 y := Below.trans (by first | assumption | exact And.left (by assumption) | exact Below.refl _ _ | exact below_dn 1 (Below.refl _ _)) (Joins.below_le hz1 (Below.size (by first | assumption | exact And.left (by assumption) | exact Below.refl _ _ | exact below_dn 1 (Below.refl _ _)))))
      | (go_at_call 18; refine (HC.out _ (by first | assumption | exact And.left (by assumption) | exact Below.refl _ _ | exact below_dn 1 (Below.refl _ _))).1.mono ?_; rintro e y ⟨rfl, hz2⟩; have kk2 : Below W5.heap.size W5 y := Below.trans (by first | assumption | exact And.left (by assumption) | exact Below.refl _ _ | exact below_dn 1 (Below.refl _ _)) (Joins.below_le hz2 (Below.size (by first | assumption | exact And.left (by assumption) | exact Below.refl _ _ | exact below_dn 1 (Below.refl _ _)))))
      | (go_at_call 19; refine (HC.out _ (by first | assumption | exact And.left (by assumption) | exact Below.refl _ _ | exact below_dn 1 (Below.refl _ _))).2.mono ?_; rintro e y ⟨rfl, hz3⟩; have kk3 : Below W5.heap.size W5 y := Below.trans (by first | assumption | exact And.left (by assumption) | exact Below.refl _ _ | exact below_dn 1 (Below.refl _ _)) (Joins.below_le hz3 (Below.size (by first | assumption | exact And.left (by assumption) | exact Below.refl _ _ | exact below_dn 1 (Below.refl _ _)))))
      | (go_at_call 20; refine (HS.out _ (by first | assumption | exact And.left (by assumption) | exact Below.refl _ _ | exact below_dn 1 (Below.refl _ _))).mono ?_; rintro e y ⟨rfl, hz4⟩; have kk4 : Below W5.heap.size W5 y := Below.trans (by first | assumption | exact And.left (by assumption) | exact Below.refl _ _ | exact below_dn 1 (Below.refl _ _)) (Joins.below_le hz4 (Below.size (by first | assumption | exact And.left (by assumption) | exact Below.refl _ _ | exact below_dn 1 (Below.refl _ _)))))
      | (go_at_call 21; refine (HQ.out _ (by first | assumption | exact And.left (by assumption) | exact Below.refl _ _ | exact below_dn 1 (Below.refl _ _))).mono ?_; rintro e y ⟨rfl, hz5⟩; have kk5 : Below W5.heap.size W5 y := Below.trans (by first | assumption | exact And.left (by assumption) | exact Below.refl _ _ | exact below_dn 1 (Below.refl _ _)) (Joins.below_le hz5 (Below.size (by first | assumption | exact And.left (by assumption) | exact Below.refl _ _ | exact below_dn 1 (Below.refl _ _))))))
    all_goals
      go_wp2_with fail
      go_ret
      exact ⟨rfl, HW.out _ (by first | assumption | exact below_dn 1 (by assumption))⟩
  · have HA := Lib.hid (awake_ok W1 HT.out)
    cases r with
    | false =>
      clear hok
      go_wp2_with fail
      refine HA.out.mono ?_
      rintro e w' ⟨rfl, hb⟩
      have HE := Lib.hid (HB.out.trans (hb.mono HB.out.size))
      clear hb
      go_wp2_with fail
      go_ret
      exact ⟨rfl, HE.out⟩
    | true =>
      have hn : 40 < n := by
        rcases Nat.lt_or_ge 40 n with h | h
        · exact h
        · exact absurd ⟨rfl, h⟩ hok
      have k1 : (40 : Int) < (n : Int) := by omega
      have k3 : decide (40 < n) = true := decide_eq_true hn
      clear hok
      go_wp2_with fail
      refine HA.out.mono ?_
      rintro e w' ⟨rfl, hb⟩
      have HE := Lib.hid (HB.out.trans (hb.mono HB.out.size))
      clear hb
      go_wp2_with fail
      go_ret
      exact ⟨rfl, HE.out⟩

end Go.Proofs.YtbefkngeffpokaaDoor
