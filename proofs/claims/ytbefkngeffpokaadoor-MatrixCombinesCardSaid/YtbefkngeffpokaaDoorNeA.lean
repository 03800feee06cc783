/- MatrixCombines, whatever the matrices. -/
import Derived.Test.YtbefkngeffpokaaDoorNdA
import Derived.WalkKit
import Derived.WalkSpells
import Derived.WalkLawsBesides
import Derived.Handy
import Derived.Deep.QuietTactic
import Derived.BigQuiet
import Derived.Outline
import Derived.Laws.BitsAllLaws
import Derived.IntWalk
import Derived.Lib.SmallJoins
import Derived.Lib.Hide
import Derived.Deep.DeepCutAuto
import Derived.LoopTactic
import Derived.Deep.RegionWith
import Derived.Laws.CopyOwn
import Derived.Maps.OwnOps
import Derived.Maps.OwnSet
import Derived.Laws.OwnMore
import Derived.Maps.AppendAt
import Derived.RangeFuncNested
import Derived.RangeFuncBound
import Derived.RangeFuncCalls
import Derived.RangeFuncLeaves
import Derived.RangeFuncBox
import Derived.RangeFuncFrom
import Derived.Shelf.Abstract
import Derived.Shelf.RegionOpen
import Derived.OwnWalkIn
import Derived.TacticsInMore
import Derived.LoopNIn
import Derived.LoopIn
import Derived.Deep.RegionHeld3
import Derived.RegionTactic
import Derived.ChangeAlike
namespace Go.Proofs.YtbefkngeffpokaaDoor
set_option linter.unusedVariables false
set_option linter.unusedSimpArgs false
open Go.RowKit


theorem mats_two (U : World) (C D : Int) (o p : Option Addr) (K M cap cap' : Nat) (t : TypeId) : Mats (U.alloc (.cells #[.int .i64 C, .slice o K cap, .int .i64 D, .slice p M cap'] t)) U.heap.size 2 (fun c => if c = 0 then C else D) (fun c => if c = 0 then o else p) (fun c => if c = 0 then K else M) (fun c => if c = 0 then cap else cap') := by
  have b := Box.new U #[.int .i64 C, .slice o K cap, .int .i64 D, .slice p M cap'] t
  refine ⟨b.lt, fun c hc => ?_, fun c hc => ?_⟩
  · match c, hc with
    | 0, _ => exact b.cell 0
    | 1, _ => exact b.cell 2
  · match c, hc with
    | 0, _ => exact b.cell 1
    | 1, _ => exact b.cell 3
set_option maxRecDepth 100000 in
set_option maxHeartbeats 8000000 in
theorem combines_ok (C D : Int) (o p : Option Addr) (K M cap cap' : Nat) (oc od : Nat → Option Addr) (nc cc nd cd : Nat → Nat) (xc xd : Nat → Nat → Int) (w : World) (hL : Lv w o K oc nc cc xc) (hL' : Lv w p M od nd cd xd) (hT : Tb1 w) :
    Calls Tryd.prog 4 #[mv C o K cap, mv D p M cap'] w fun e w' => e = .returned (.bool true) ∧ Below w.heap.size w w' := by
  have hb2 : Below w.heap.size w (((w.alloc (.cells #[.int .i64 C, .slice o K cap] 24)).alloc (.cells #[.int .i64 D, .slice p M cap'] 24)).alloc (.cells #[.int .i64 C, .slice o K cap, .int .i64 D, .slice p M cap'] 24)) := (((Below.refl _ _).alloc (Nat.le_refl _) _).alloc (by simp) _).alloc (by simp; omega) _
  have HFw := Lib.hid (few_allq 2 (by omega) (w.heap.size + 1 + 1) _ _ _ _ _ (by have h := mats_two ((w.alloc (.cells #[.int .i64 C, .slice o K cap] 24)).alloc (.cells #[.int .i64 D, .slice p M cap'] 24)) C D o p K M cap cap' 24; rwa [World.size_alloc, World.size_alloc] at h) (fun c => if c = 0 then FewQ C K nc else FewQ D M nd) (fun c hc W hW => by
    by_cases h0 : c = 0
    · simp only [h0, if_true]
      exact few_q C K o cap oc nc cc xc W ((hL.below hb2).below hW)
    · simp only [h0, if_false]
      exact few_q D M p cap' od nd cd xd W ((hL'.below hb2).below hW)))
  have HB := Lib.hid hb2
  have HBx := Lib.hid (((mbox w C o K cap).alloc (.cells #[.int .i64 D, .slice p M cap'] 24)).alloc (.cells #[.int .i64 C, .slice o K cap, .int .i64 D, .slice p M cap'] 24))
  have HBy := Lib.hid ((mbox (w.alloc (.cells #[.int .i64 C, .slice o K cap] 24)) D p M cap').alloc (.cells #[.int .i64 C, .slice o K cap, .int .i64 D, .slice p M cap'] 24))
  rw [World.size_alloc] at HBy
  have HT := Lib.hid hT
  have HAd := Lib.hid (fun (hq : FewQ C K nc) (hq' : FewQ D M nd) W (hW : Below w.heap.size w W) => add_pair C D K M o p cap cap' W ((mst_of hq hL).below hW) ((mst_of hq' hL').below hW))
  have HMu := Lib.hid (fun (hq : FewQ C K nc) (hq' : FewQ D M nd) W (hW : Below w.heap.size w W) => mul_pair C D K M o p cap cap' W ((mst_of hq hL).below hW) ((mst_of hq' hL').below hW))
  unfold mv at HAd HMu ⊢
  clear hL hL' hT hb2
  go_enter Tryd.func4, Tryd.ntmps4
  go_wp2_with fail
  refine HFw.out.mono ?_
  rintro e W1 ⟨⟨r, rfl, hr⟩, hb1⟩
  have HB := Lib.hid (HB.out.trans (Joins.below_le hb1 HB.out.size))
  have XM := Lib.hid (HBx.out.below hb1 HBx.out.lt)
  have XN := Lib.hid (HBy.out.below hb1 HBy.out.lt)
  have HR := Lib.hid hr
  have HT := Lib.hid (HT.out.here HB.out XM.out.lt)
  clear hb1 hr HBx HBy HFw
  cases r with
  | false =>
    have HA := Lib.hid (awake_ok W1 HT.out)
    go_wp2_with fail
    refine HA.out.mono ?_
    rintro e w' ⟨rfl, hb⟩
    have HE := Lib.hid (HB.out.trans (hb.mono HB.out.size))
    clear hb
    go_wp2_with fail
    go_ret
    exact ⟨rfl, HE.out⟩
  | true =>
    have hq : FewQ C K nc := HR.out rfl 0 (by omega)
    have hq' : FewQ D M nd := HR.out rfl 1 (by omega)
    obtain ⟨N1, K1, r1, v1, hN1, hK1, he⟩ := HAd.out hq hq' W1 HB.out
    obtain ⟨N3, K3, r3, v3, hN3, hK3, he3⟩ := HMu.out hq hq' W1 HB.out
    have HE := Lib.hid he
    have HK := Lib.hid he3
    have HS1 := Lib.hid (fun (p q : Option Addr) (c d : Nat) W (h1 : Mx W p K1 N1 r1) (h2 : Mx W q K1 N1 r1) => same_mx (N1 : Int) N1 K1 hN1 hK1 r1 p q c d W h1 h2)
    have HS3 := Lib.hid (fun (p q : Option Addr) (c d : Nat) W (h1 : Mx W p K3 N3 r3) (h2 : Mx W q K3 N3 r3) => same_mx (N3 : Int) N3 K3 hN3 hK3 r3 p q c d W h1 h2)
    unfold mv at HS1 HS3
    have HU := Lib.hid (Below.refl W1.heap.size W1)
    clear he he3 hq hq' hN1 hK1 hN3 hK3 HR HAd HMu
    have XM0 := XM.out.cell 0
    have XM1 := XM.out.cell 1
    have XM2 := fun ob => (XM.out.alloc ob).cell 0
    have XM3 := fun ob => (XM.out.alloc ob).cell 1
    have XN0 := XN.out.cell 0
    have XN1 := XN.out.cell 1
    have XN2 := fun ob => (XN.out.alloc ob).cell 0
    have XN3 := fun ob => (XN.out.alloc ob).cell 1
    go_wp2_with fail
    have hal : Below W1.heap.size W1 W1 := (Below.refl _ _)
    refine ((HE.out W1 (HU.out.trans (Joins.below_le hal HU.out.size)) (HT.out.here hal)).1).mono ?_
    rintro e W2 ⟨o1, c1, rfl, hm, hb⟩
    have hbb : Below W1.heap.size W1 W2 := hal.trans (hb.mono hal.size)
    have M1 := Lib.hid (hm)
    have HB := Lib.hid (HB.out.trans (Joins.below_le hbb HB.out.size))
    have XM := Lib.hid (XM.out.below hbb XM.out.lt)
    have XN := Lib.hid (XN.out.below hbb XN.out.lt)
    have HT := Lib.hid (HT.out.here hbb)
    have HU := Lib.hid (HU.out.trans (Joins.below_le hbb HU.out.size))
    clear XM0 XM1 XM2 XM3 XN0 XN1 XN2 XN3
    clear hal hbb hb hm
    have XM0 := XM.out.cell 0
    have XM1 := XM.out.cell 1
    have XM2 := fun ob => (XM.out.alloc ob).cell 0
    have XM3 := fun ob => (XM.out.alloc ob).cell 1
    have XN0 := XN.out.cell 0
    have XN1 := XN.out.cell 1
    have XN2 := fun ob => (XN.out.alloc ob).cell 0
    have XN3 := fun ob => (XN.out.alloc ob).cell 1
    go_wp2_with fail
    have hal : Below W2.heap.size W2 (W2.alloc (.cells #[.int .i64 (N1 : Int), .slice o1 K1 c1] 24)) := ((Below.refl _ _).alloc (by first | exact Nat.le_refl _ | (simp; done) | (simp; omega)) _)
    refine ((HE.out (W2.alloc (.cells #[.int .i64 (N1 : Int), .slice o1 K1 c1] 24)) (HU.out.trans (Joins.below_le hal HU.out.size)) (HT.out.here hal)).2).mono ?_
    rintro e W3 ⟨o2, c2, rfl, hm, hb⟩
    have hbb : Below W2.heap.size W2 W3 := hal.trans (hb.mono hal.size)
    have X1 := Lib.hid ((Box.new W2 #[.int .i64 (N1 : Int), .slice o1 K1 c1] 24).below hb (by simp))
    have M2 := Lib.hid (hm)
    have HB := Lib.hid (HB.out.trans (Joins.below_le hbb HB.out.size))
    have XM := Lib.hid (XM.out.below hbb XM.out.lt)
    have XN := Lib.hid (XN.out.below hbb XN.out.lt)
    have HT := Lib.hid (HT.out.here hbb)
    have HU := Lib.hid (HU.out.trans (Joins.below_le hbb HU.out.size))
    have M1 := Lib.hid (M1.out.below hbb)
    clear XM0 XM1 XM2 XM3 XN0 XN1 XN2 XN3
    clear hal hbb hb hm
    have XM0 := XM.out.cell 0
    have XM1 := XM.out.cell 1
    have XM2 := fun ob => (XM.out.alloc ob).cell 0
    have XM3 := fun ob => (XM.out.alloc ob).cell 1
    have XN0 := XN.out.cell 0
    have XN1 := XN.out.cell 1
    have XN2 := fun ob => (XN.out.alloc ob).cell 0
    have XN3 := fun ob => (XN.out.alloc ob).cell 1
    have X10 := X1.out.cell 0
    have X11 := X1.out.cell 1
    have X12 := fun ob => (X1.out.alloc ob).cell 0
    have X13 := fun ob => (X1.out.alloc ob).cell 1
    go_wp2_with fail
    have hal : Below W3.heap.size W3 (W3.alloc (.cells #[.int .i64 (N1 : Int), .slice o2 K1 c2] 24)) := ((Below.refl _ _).alloc (by first | exact Nat.le_refl _ | (simp; done) | (simp; omega)) _)
    refine ((HK.out (W3.alloc (.cells #[.int .i64 (N1 : Int), .slice o2 K1 c2] 24)) (HU.out.trans (Joins.below_le hal HU.out.size)) (HT.out.here hal)).1).mono ?_
    rintro e W4 ⟨o5, c5, rfl, hm, hb⟩
    have hbb : Below W3.heap.size W3 W4 := hal.trans (hb.mono hal.size)
    have X2 := Lib.hid ((Box.new W3 #[.int .i64 (N1 : Int), .slice o2 K1 c2] 24).below hb (by simp))
    have M5 := Lib.hid (hm)
    have HB := Lib.hid (HB.out.trans (Joins.below_le hbb HB.out.size))
    have XM := Lib.hid (XM.out.below hbb XM.out.lt)
    have XN := Lib.hid (XN.out.below hbb XN.out.lt)
    have HT := Lib.hid (HT.out.here hbb)
    have HU := Lib.hid (HU.out.trans (Joins.below_le hbb HU.out.size))
    have M1 := Lib.hid (M1.out.below hbb)
    have X1 := Lib.hid (X1.out.below hbb X1.out.lt)
    have M2 := Lib.hid (M2.out.below hbb)
    clear XM0 XM1 XM2 XM3 XN0 XN1 XN2 XN3 X10 X11 X12 X13
    clear hal hbb hb hm
    have XM0 := XM.out.cell 0
    have XM1 := XM.out.cell 1
    have XM2 := fun ob => (XM.out.alloc ob).cell 0
    have XM3 := fun ob => (XM.out.alloc ob).cell 1
    have XN0 := XN.out.cell 0
    have XN1 := XN.out.cell 1
    have XN2 := fun ob => (XN.out.alloc ob).cell 0
    have XN3 := fun ob => (XN.out.alloc ob).cell 1
    have X10 := X1.out.cell 0
    have X11 := X1.out.cell 1
    have X12 := fun ob => (X1.out.alloc ob).cell 0
    have X13 := fun ob => (X1.out.alloc ob).cell 1
    have X20 := X2.out.cell 0
    have X21 := X2.out.cell 1
    have X22 := fun ob => (X2.out.alloc ob).cell 0
    have X23 := fun ob => (X2.out.alloc ob).cell 1
    go_wp2_with fail
    have hal : Below W4.heap.size W4 (W4.alloc (.cells #[.int .i64 (N3 : Int), .slice o5 K3 c5] 24)) := ((Below.refl _ _).alloc (by first | exact Nat.le_refl _ | (simp; done) | (simp; omega)) _)
    refine ((HK.out (W4.alloc (.cells #[.int .i64 (N3 : Int), .slice o5 K3 c5] 24)) (HU.out.trans (Joins.below_le hal HU.out.size)) (HT.out.here hal)).2).mono ?_
    rintro e W5 ⟨o6, c6, rfl, hm, hb⟩
    have hbb : Below W4.heap.size W4 W5 := hal.trans (hb.mono hal.size)
    have X5 := Lib.hid ((Box.new W4 #[.int .i64 (N3 : Int), .slice o5 K3 c5] 24).below hb (by simp))
    have M6 := Lib.hid (hm)
    have HB := Lib.hid (HB.out.trans (Joins.below_le hbb HB.out.size))
    have XM := Lib.hid (XM.out.below hbb XM.out.lt)
    have XN := Lib.hid (XN.out.below hbb XN.out.lt)
    have HT := Lib.hid (HT.out.here hbb)
    have HU := Lib.hid (HU.out.trans (Joins.below_le hbb HU.out.size))
    have M1 := Lib.hid (M1.out.below hbb)
    have X1 := Lib.hid (X1.out.below hbb X1.out.lt)
    have M2 := Lib.hid (M2.out.below hbb)
    have X2 := Lib.hid (X2.out.below hbb X2.out.lt)
    have M5 := Lib.hid (M5.out.below hbb)
    clear XM0 XM1 XM2 XM3 XN0 XN1 XN2 XN3 X10 X11 X12 X13 X20 X21 X22 X23
    clear hal hbb hb hm
    have XM0 := XM.out.cell 0
    have XM1 := XM.out.cell 1
    have XM2 := fun ob => (XM.out.alloc ob).cell 0
    have XM3 := fun ob => (XM.out.alloc ob).cell 1
    have XN0 := XN.out.cell 0
    have XN1 := XN.out.cell 1
    have XN2 := fun ob => (XN.out.alloc ob).cell 0
    have XN3 := fun ob => (XN.out.alloc ob).cell 1
    have X10 := X1.out.cell 0
    have X11 := X1.out.cell 1
    have X12 := fun ob => (X1.out.alloc ob).cell 0
    have X13 := fun ob => (X1.out.alloc ob).cell 1
    have X20 := X2.out.cell 0
    have X21 := X2.out.cell 1
    have X22 := fun ob => (X2.out.alloc ob).cell 0
    have X23 := fun ob => (X2.out.alloc ob).cell 1
    have X50 := X5.out.cell 0
    have X51 := X5.out.cell 1
    have X52 := fun ob => (X5.out.alloc ob).cell 0
    have X53 := fun ob => (X5.out.alloc ob).cell 1
    go_wp2_with fail
    have hal : Below W5.heap.size W5 (W5.alloc (.cells #[.int .i64 (N3 : Int), .slice o6 K3 c6] 24)) := ((Below.refl _ _).alloc (by first | exact Nat.le_refl _ | (simp; done) | (simp; omega)) _)
    refine (awake_ok (W5.alloc (.cells #[.int .i64 (N3 : Int), .slice o6 K3 c6] 24)) (HT.out.here hal)).mono ?_
    rintro e W8 ⟨rfl, hb⟩
    have hbb : Below W5.heap.size W5 W8 := hal.trans (hb.mono hal.size)
    have X6 := Lib.hid ((Box.new W5 #[.int .i64 (N3 : Int), .slice o6 K3 c6] 24).below hb (by simp))
    have HB := Lib.hid (HB.out.trans (Joins.below_le hbb HB.out.size))
    have XM := Lib.hid (XM.out.below hbb XM.out.lt)
    have XN := Lib.hid (XN.out.below hbb XN.out.lt)
    have HT := Lib.hid (HT.out.here hbb)
    have HU := Lib.hid (HU.out.trans (Joins.below_le hbb HU.out.size))
    have M1 := Lib.hid (M1.out.below hbb)
    have X1 := Lib.hid (X1.out.below hbb X1.out.lt)
    have M2 := Lib.hid (M2.out.below hbb)
    have X2 := Lib.hid (X2.out.below hbb X2.out.lt)
    have M5 := Lib.hid (M5.out.below hbb)
    have X5 := Lib.hid (X5.out.below hbb X5.out.lt)
    have M6 := Lib.hid (M6.out.below hbb)
    clear XM0 XM1 XM2 XM3 XN0 XN1 XN2 XN3 X10 X11 X12 X13 X20 X21 X22 X23 X50 X51 X52 X53
    clear hal hbb hb
    have XM0 := XM.out.cell 0
    have XM1 := XM.out.cell 1
    have XM2 := fun ob => (XM.out.alloc ob).cell 0
    have XM3 := fun ob => (XM.out.alloc ob).cell 1
    have XN0 := XN.out.cell 0
    have XN1 := XN.out.cell 1
    have XN2 := fun ob => (XN.out.alloc ob).cell 0
    have XN3 := fun ob => (XN.out.alloc ob).cell 1
    have X10 := X1.out.cell 0
    have X11 := X1.out.cell 1
    have X12 := fun ob => (X1.out.alloc ob).cell 0
    have X13 := fun ob => (X1.out.alloc ob).cell 1
    have X20 := X2.out.cell 0
    have X21 := X2.out.cell 1
    have X22 := fun ob => (X2.out.alloc ob).cell 0
    have X23 := fun ob => (X2.out.alloc ob).cell 1
    have X50 := X5.out.cell 0
    have X51 := X5.out.cell 1
    have X52 := fun ob => (X5.out.alloc ob).cell 0
    have X53 := fun ob => (X5.out.alloc ob).cell 1
    have X60 := X6.out.cell 0
    have X61 := X6.out.cell 1
    have X62 := fun ob => (X6.out.alloc ob).cell 0
    have X63 := fun ob => (X6.out.alloc ob).cell 1
    go_wp2_with fail
    have hal : Below W8.heap.size W8 W8 := (Below.refl _ _)
    refine (HS1.out o1 o2 c1 c2 W8 (M1.out.below hal) (M2.out.below hal)).mono ?_
    rintro e W9 ⟨rfl, hb⟩
    have hbb : Below W8.heap.size W8 W9 := hal.trans (hb.mono hal.size)
    have HB := Lib.hid (HB.out.trans (Joins.below_le hbb HB.out.size))
    have XM := Lib.hid (XM.out.below hbb XM.out.lt)
    have XN := Lib.hid (XN.out.below hbb XN.out.lt)
    have HT := Lib.hid (HT.out.here hbb)
    have HU := Lib.hid (HU.out.trans (Joins.below_le hbb HU.out.size))
    have M1 := Lib.hid (M1.out.below hbb)
    have X1 := Lib.hid (X1.out.below hbb X1.out.lt)
    have M2 := Lib.hid (M2.out.below hbb)
    have X2 := Lib.hid (X2.out.below hbb X2.out.lt)
    have M5 := Lib.hid (M5.out.below hbb)
    have X5 := Lib.hid (X5.out.below hbb X5.out.lt)
    have M6 := Lib.hid (M6.out.below hbb)
    have X6 := Lib.hid (X6.out.below hbb X6.out.lt)
    clear XM0 XM1 XM2 XM3 XN0 XN1 XN2 XN3 X10 X11 X12 X13 X20 X21 X22 X23 X50 X51 X52 X53 X60 X61 X62 X63
    clear hal hbb hb
    have XM0 := XM.out.cell 0
    have XM1 := XM.out.cell 1
    have XM2 := fun ob => (XM.out.alloc ob).cell 0
    have XM3 := fun ob => (XM.out.alloc ob).cell 1
    have XN0 := XN.out.cell 0
    have XN1 := XN.out.cell 1
    have XN2 := fun ob => (XN.out.alloc ob).cell 0
    have XN3 := fun ob => (XN.out.alloc ob).cell 1
    have X10 := X1.out.cell 0
    have X11 := X1.out.cell 1
    have X12 := fun ob => (X1.out.alloc ob).cell 0
    have X13 := fun ob => (X1.out.alloc ob).cell 1
    have X20 := X2.out.cell 0
    have X21 := X2.out.cell 1
    have X22 := fun ob => (X2.out.alloc ob).cell 0
    have X23 := fun ob => (X2.out.alloc ob).cell 1
    have X50 := X5.out.cell 0
    have X51 := X5.out.cell 1
    have X52 := fun ob => (X5.out.alloc ob).cell 0
    have X53 := fun ob => (X5.out.alloc ob).cell 1
    have X60 := X6.out.cell 0
    have X61 := X6.out.cell 1
    have X62 := fun ob => (X6.out.alloc ob).cell 0
    have X63 := fun ob => (X6.out.alloc ob).cell 1
    go_wp2_with fail
    have hal : Below W9.heap.size W9 W9 := (Below.refl _ _)
    refine (HS3.out o5 o6 c5 c6 W9 (M5.out.below hal) (M6.out.below hal)).mono ?_
    rintro e W10 ⟨rfl, hb⟩
    have hbb : Below W9.heap.size W9 W10 := hal.trans (hb.mono hal.size)
    have HB := Lib.hid (HB.out.trans (Joins.below_le hbb HB.out.size))
    have XM := Lib.hid (XM.out.below hbb XM.out.lt)
    have XN := Lib.hid (XN.out.below hbb XN.out.lt)
    have HT := Lib.hid (HT.out.here hbb)
    have HU := Lib.hid (HU.out.trans (Joins.below_le hbb HU.out.size))
    have M1 := Lib.hid (M1.out.below hbb)
    have X1 := Lib.hid (X1.out.below hbb X1.out.lt)
    have M2 := Lib.hid (M2.out.below hbb)
    have X2 := Lib.hid (X2.out.below hbb X2.out.lt)
    have M5 := Lib.hid (M5.out.below hbb)
    have X5 := Lib.hid (X5.out.below hbb X5.out.lt)
    have M6 := Lib.hid (M6.out.below hbb)
    have X6 := Lib.hid (X6.out.below hbb X6.out.lt)
    clear XM0 XM1 XM2 XM3 XN0 XN1 XN2 XN3 X10 X11 X12 X13 X20 X21 X22 X23 X50 X51 X52 X53 X60 X61 X62 X63
    clear hal hbb hb
    go_wp2_with fail
    go_ret
    exact ⟨rfl, HB.out⟩

end Go.Proofs.YtbefkngeffpokaaDoor
