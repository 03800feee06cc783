/- The examples hold. -/
import Derived.Test.YtbefkngeffpokaaDoorMxT
import Derived.Test.YtbefkngeffpokaaDoorMxY
import Derived.Test.YtbefkngeffpokaaDoorMyG
import Derived.Test.YtbefkngeffpokaaDoorMyO
import Derived.Test.YtbefkngeffpokaaDoorMyR
import Derived.WalkKit
import Derived.WalkSpells
import Derived.WalkLawsBesides
import Derived.Handy
import Derived.Deep.QuietTactic
import Derived.BigQuiet
import Derived.Outline
import Derived.Laws.BitsAllLaws
import Derived.IntWalk
import Derived.Lib.SmallJoins
import Derived.Lib.Hide
import Derived.Deep.DeepCutAuto
import Derived.LoopTactic
import Derived.Deep.RegionWith
import Derived.Laws.CopyOwn
import Derived.Maps.OwnOps
import Derived.Maps.OwnSet
import Derived.Laws.OwnMore
import Derived.Maps.AppendAt
import Derived.RangeFuncNested
import Derived.RangeFuncBound
import Derived.RangeFuncCalls
import Derived.RangeFuncLeaves
import Derived.RangeFuncBox
import Derived.RangeFuncFrom
import Derived.Shelf.Abstract
import Derived.Shelf.RegionOpen
import Derived.OwnWalkIn
import Derived.TacticsInMore
import Derived.LoopNIn
import Derived.LoopIn
import Derived.Deep.RegionHeld3
import Derived.RegionTactic
import Derived.ChangeAlike
namespace Go.Proofs.YtbefkngeffpokaaDoor
set_option linter.unusedVariables false
set_option linter.unusedSimpArgs false
open Go.RowKit


theorem exr_lt : ∀ i, i < 4 → exr i < 2 ^ 4 := by decide
theorem ex_ech (o : Option Addr) (cap : Nat) (W : World) (hM : Mx W o 4 4 exr) (hT : Tb W) : Calls Tryd.prog 26 #[.agg #[.int .i64 4, .slice o 4 cap]] W fun e w' => ∃ o' cap', e = .returned (.tuple #[.agg #[.int .i64 4, .slice o' 3 cap'], .int .i64 0]) ∧ Mx w' o' 3 4 (fun i => ext ([0, 1, 3].getD i 0)) ∧ Below W.heap.size W w' :=
  (ech_good 4 4 (by omega) (by omega) exr exr_lt _ _ ex_can sort_ok o cap W hM hT).mono fun e w' ⟨o', c', h1, h2, h3⟩ => ⟨o', c', h1, h2.mx, h3⟩
theorem ex_rank (o : Option Addr) (cap : Nat) (W : World) (hM : Mx W o 4 4 exr) (hT : Tb W) : Calls Tryd.prog 28 #[.agg #[.int .i64 4, .slice o 4 cap]] W fun e w' => e = .returned (.tuple #[.int .i64 3, .int .i64 0]) ∧ Below W.heap.size W w' :=
  (rank_good 4 4 (by omega) (by omega) exr exr_lt _ _ ex_can sort_ok o cap W hM hT).mono fun e w' ⟨h1, h3⟩ => ⟨h1, h3⟩
theorem ex_ker (o : Option Addr) (cap : Nat) (W : World) (hM : Mx W o 4 4 exr) (hT : Tb W) : Calls Tryd.prog 30 #[.agg #[.int .i64 4, .slice o 4 cap]] W fun e w' => ∃ o' cap', e = .returned (.tuple #[.agg #[.int .i64 4, .slice o' 1 cap'], .int .i64 0]) ∧ Mx w' o' 1 4 (fun _ => 7) ∧ Below W.heap.size W w' := by
  refine (ker_good 4 4 (by omega) (by omega) exr exr_lt _ _ ex_can sort_ok o cap W hM hT).mono ?_
  rintro e w' ⟨o', c', h1, h2, h3⟩
  have e1 : (nl 4 [0, 1, 3]).length = 1 := by decide
  rw [e1] at h1 h2
  refine ⟨o', c', h1, h2.mx.congr fun i hi => ?_, h3⟩
  obtain rfl : i = 0 := by omega
  decide
theorem ex_tr (o : Option Addr) (cap : Nat) (W : World) (hM : Mx W o 4 4 exr) : Calls Tryd.prog 14 #[.agg #[.int .i64 4, .slice o 4 cap]] W fun e w' => ∃ o' cap', e = .returned (.tuple #[.agg #[.int .i64 4, .slice o' 4 cap'], .int .i64 0]) ∧ Mx w' o' 4 4 (trr 4 exr) ∧ Below W.heap.size W w' := trans_good 4 4 (by omega) (by omega) exr o cap W hM
theorem ex_same (K : Nat) (hK : K ≤ 100) (r : Nat → Nat) (o p : Option Addr) (cap cap' : Nat) (W : World) (hM : Mx W o K 4 r) (hM' : Mx W p K 4 r) : Calls Tryd.prog 20 #[.agg #[.int .i64 4, .slice o K cap], .agg #[.int .i64 4, .slice p K cap']] W fun e w' => e = .returned (.bool true) ∧ Below W.heap.size W w' := same_mx 4 4 K (by omega) (by omega) r o p cap cap' W hM hM'
theorem ex_s1 (o p : Option Addr) (cap cp : Nat) (W : World) (hM : Mx W o 4 4 exr) (hL : Lz W p 3 (lz [0, 1, 3])) (hT : Tb W) : Calls Tryd.prog 32 #[.agg #[.int .i64 4, .slice o 4 cap], .slice p 3 cp] W fun e w' => ∃ xo xc, e = .returned (.tuple #[.slice xo 2 xc, .slice none 0 0, .bool true, .int .i64 0]) ∧ Lz w' xo 2 (lz [1, 3]) ∧ Below W.heap.size W w' := by
  have e1 : el 4 11 = [0, 1, 3] := by decide
  have e2 : sol 4 [0, 1, 3] ext1 = [1, 3] := by decide
  have h := solve_good 4 4 (by omega) exr exr_lt 11 (by decide) _ _ ex_can1 sort_ok o p cap cp W hM (by rw [e1]; exact hL) hT
  rw [e1] at h
  refine h.mono ?_
  rintro e w' ⟨hb, (⟨h9, _⟩ | ⟨_, xo, xc, h1, h2⟩)⟩
  · exact absurd h9 (by decide)
  · rw [e2] at h1 h2
    exact ⟨xo, xc, h1, h2, hb⟩
theorem ex_s2 (o p : Option Addr) (cap cp : Nat) (W : World) (hM : Mx W o 4 4 exr) (hL : Lz W p 1 (lz [0])) (hT : Tb W) : Calls Tryd.prog 32 #[.agg #[.int .i64 4, .slice o 4 cap], .slice p 1 cp] W fun e w' => ∃ yo yc, e = .returned (.tuple #[.slice none 0 0, .slice yo 3 yc, .bool false, .int .i64 0]) ∧ Lz w' yo 3 (lz [0, 1, 2]) ∧ Below W.heap.size W w' := by
  have e1 : el 4 1 = [0] := by decide
  have e2 : el 4 7 = [0, 1, 2] := by decide
  have h := solve_good 4 4 (by omega) exr exr_lt 1 (by decide) _ _ ex_can2 sort_ok o p cap cp W hM (by rw [e1]; exact hL) hT
  rw [e1] at h
  refine h.mono ?_
  rintro e w' ⟨hb, (⟨_, y, yo, yc, h1, h2, hrf, hy⟩ | ⟨h9, _⟩)⟩
  · obtain rfl := ex_ref hrf hy
    rw [e2] at h1 h2
    exact ⟨yo, yc, h1, h2, hb⟩
  · exact absurd (by decide) h9
theorem ex_v1 (o p q : Option Addr) (cap cp cq : Nat) (W : World) (hT : Tb W) (hM : Mx W o 4 4 exr) (hL : Lz W p 1 (lz [0])) (hL' : Lz W q 3 (lz [0, 1, 2])) : Calls Tryd.prog 35 #[.agg #[.int .i64 4, .slice o 4 cap], .slice p 1 cp, .slice q 3 cq] W fun e w' => e = .returned (.int .i64 0) ∧ Below W.heap.size W w' := by
  have e1 : el 4 1 = [0] := by decide
  have e2 : el 4 7 = [0, 1, 2] := by decide
  have e3 : vfy 4 4 exr 1 7 = 0 := by decide
  have h := verify_good 4 4 (by omega) (by omega) exr exr_lt 1 7 (by decide) o p q cap cp cq W hT hM (by rw [e1]; exact hL) (by rw [e2]; exact hL')
  rw [e1, e2, e3] at h
  exact h
theorem ex_v2 (o p q : Option Addr) (cap cp cq : Nat) (W : World) (hT : Tb W) (hM : Mx W o 4 4 exr) (hL : Lz W p 3 (lz [0, 1, 3])) (hL' : Lz W q 3 (lz [0, 1, 2])) : Calls Tryd.prog 35 #[.agg #[.int .i64 4, .slice o 4 cap], .slice p 3 cp, .slice q 3 cq] W fun e w' => e = .returned (.int .i64 18) ∧ Below W.heap.size W w' := by
  have e1 : el 4 11 = [0, 1, 3] := by decide
  have e2 : el 4 7 = [0, 1, 2] := by decide
  have e3 : vfy 4 4 exr 11 7 = 18 := by decide
  have h := verify_good 4 4 (by omega) (by omega) exr exr_lt 11 7 (by decide) o p q cap cp cq W hT hM (by rw [e1]; exact hL) (by rw [e2]; exact hL')
  rw [e1, e2, e3] at h
  exact h
theorem ex_ex (W : World) : Calls Tryd.prog 43 #[] W fun e w' => ∃ o cap, e = .returned (.agg #[.int .i64 4, .slice o 4 cap]) ∧ Mx w' o 4 4 exr ∧ Below W.heap.size W w' := example_ok W
theorem ex_eq (l : List Nat) (hl : l.length ≤ 100) (n : Nat) (hn : l.length = n) (o p : Option Addr) (cap cap' : Nat) (W : World) (hL : Lz W o n (lz l)) (hL' : Lz W p n (lz l)) : Calls Tryd.prog 21 #[.slice o n cap, .slice p n cap'] W fun e w' => e = .returned (.bool true) ∧ Below W.heap.size W w' := by
  have h := equal_any n n (by omega) (lz l) (lz l) o p cap cap' W hL hL'
  rw [eqb_self fun i _ => rfl] at h
  exact h
theorem vl (U : World) (l : List Nat) (n : Nat) (hn : l.length = n) : Lz (U.alloc (.cells (lsv (ints l)).toArray 3)) (some ⟨U.heap.size, 0, none⟩) n (lz l) := by
  have h := lz_lit (ints l) U 3
  rw [ints_len, hn] at h
  exact h.congr fun i _ => ints_at l i

set_option maxRecDepth 100000 in
set_option maxHeartbeats 8000000 in
theorem awake_ok (w : World) (hT : Tb w) : Calls Tryd.prog 13 #[] w fun e w' => e = .returned (.bool true) ∧ Below w.heap.size w w' := by
  have HT := Lib.hid hT
  clear hT
  go_enter Tryd.func13, Tryd.ntmps13
  go_wp2_with fail
  refine (ex_ex w).mono ?_
  rintro e W1 ⟨o, cap, rfl, hmx, hb1⟩
  have HM := Lib.hid hmx
  have HT := Lib.hid (HT.out.here hb1)
  have HB := Lib.hid hb1
  clear hmx hb1
  go_wp2_with fail
  have hal : Below W1.heap.size W1 (W1.alloc (.cells #[.int .i64 4, .slice o 4 cap] 24)) := ((Below.refl _ _).alloc (by first | exact Nat.le_refl _ | (simp; done) | (simp; omega)) _)
  refine (ex_ech o cap (W1.alloc (.cells #[.int .i64 4, .slice o 4 cap] 24)) (HM.out.below hal) (HT.out.here hal)).mono ?_
  rintro e W2 ⟨o2, c2, rfl, hmn, hb⟩
  have hbb : Below W1.heap.size W1 W2 := hal.trans (hb.mono hal.size)
  have XA := Lib.hid ((Box.new W1 #[.int .i64 4, .slice o 4 cap] 24).below hb (by simp))
  have MR := Lib.hid (hmn)
  have HM := Lib.hid (HM.out.below hbb)
  have HT := Lib.hid (HT.out.here hbb)
  have HB := Lib.hid (HB.out.trans (Joins.below_le hbb HB.out.size))
  clear hal hbb hb
  clear hmn
  have XA0 := XA.out.cell 0
  have XA1 := XA.out.cell 1
  have XA2 := fun ob => (XA.out.alloc ob).cell 0
  have XA3 := fun ob => (XA.out.alloc ob).cell 1
  go_wp2_with fail
  have hal : Below W2.heap.size W2 (W2.alloc (.cells #[.int .i64 4, .slice o2 3 c2] 24)) := ((Below.refl _ _).alloc (by first | exact Nat.le_refl _ | (simp; done) | (simp; omega)) _)
  refine (ex_rank o cap (W2.alloc (.cells #[.int .i64 4, .slice o2 3 c2] 24)) (HM.out.below hal) (HT.out.here hal)).mono ?_
  rintro e W3 ⟨rfl, hb⟩
  have hbb : Below W2.heap.size W2 W3 := hal.trans (hb.mono hal.size)
  have XR := Lib.hid ((Box.new W2 #[.int .i64 4, .slice o2 3 c2] 24).below hb (by simp))
  have HM := Lib.hid (HM.out.below hbb)
  have HT := Lib.hid (HT.out.here hbb)
  have HB := Lib.hid (HB.out.trans (Joins.below_le hbb HB.out.size))
  have XA := Lib.hid (XA.out.below hbb XA.out.lt)
  have MR := Lib.hid (MR.out.below hbb)
  clear XA0 XA1 XA2 XA3
  clear hal hbb hb
  have XA0 := XA.out.cell 0
  have XA1 := XA.out.cell 1
  have XA2 := fun ob => (XA.out.alloc ob).cell 0
  have XA3 := fun ob => (XA.out.alloc ob).cell 1
  have XR0 := XR.out.cell 0
  have XR1 := XR.out.cell 1
  have XR2 := fun ob => (XR.out.alloc ob).cell 0
  have XR3 := fun ob => (XR.out.alloc ob).cell 1
  go_wp2_with fail
  have hal : Below W3.heap.size W3 W3 := (Below.refl _ _)
  refine (ex_ker o cap W3 (HM.out.below hal) (HT.out.here hal)).mono ?_
  rintro e W4 ⟨o4, c4, rfl, hmn, hb⟩
  have hbb : Below W3.heap.size W3 W4 := hal.trans (hb.mono hal.size)
  have MK := Lib.hid (hmn)
  have HM := Lib.hid (HM.out.below hbb)
  have HT := Lib.hid (HT.out.here hbb)
  have HB := Lib.hid (HB.out.trans (Joins.below_le hbb HB.out.size))
  have XA := Lib.hid (XA.out.below hbb XA.out.lt)
  have MR := Lib.hid (MR.out.below hbb)
  have XR := Lib.hid (XR.out.below hbb XR.out.lt)
  clear XA0 XA1 XA2 XA3 XR0 XR1 XR2 XR3
  clear hal hbb hb
  clear hmn
  have XA0 := XA.out.cell 0
  have XA1 := XA.out.cell 1
  have XA2 := fun ob => (XA.out.alloc ob).cell 0
  have XA3 := fun ob => (XA.out.alloc ob).cell 1
  have XR0 := XR.out.cell 0
  have XR1 := XR.out.cell 1
  have XR2 := fun ob => (XR.out.alloc ob).cell 0
  have XR3 := fun ob => (XR.out.alloc ob).cell 1
  go_wp2_with fail
  have hal : Below W4.heap.size W4 (W4.alloc (.cells #[.int .i64 4, .slice o4 1 c4] 24)) := ((Below.refl _ _).alloc (by first | exact Nat.le_refl _ | (simp; done) | (simp; omega)) _)
  refine (ex_tr o cap (W4.alloc (.cells #[.int .i64 4, .slice o4 1 c4] 24)) (HM.out.below hal)).mono ?_
  rintro e W5 ⟨o5, c5, rfl, hmn, hb⟩
  have hbb : Below W4.heap.size W4 W5 := hal.trans (hb.mono hal.size)
  have XK := Lib.hid ((Box.new W4 #[.int .i64 4, .slice o4 1 c4] 24).below hb (by simp))
  have MT2 := Lib.hid (hmn)
  have HM := Lib.hid (HM.out.below hbb)
  have HT := Lib.hid (HT.out.here hbb)
  have HB := Lib.hid (HB.out.trans (Joins.below_le hbb HB.out.size))
  have XA := Lib.hid (XA.out.below hbb XA.out.lt)
  have MR := Lib.hid (MR.out.below hbb)
  have XR := Lib.hid (XR.out.below hbb XR.out.lt)
  have MK := Lib.hid (MK.out.below hbb)
  clear XA0 XA1 XA2 XA3 XR0 XR1 XR2 XR3
  clear hal hbb hb
  clear hmn
  have hlit := lit3' (W5.alloc (.cells #[.int .i64 4, .slice o5 4 c5] 24)) 3 25 [0, 2] [1, 2] [3] (fun i => ints (el 4 ((fun i => ext ([0, 1, 3].getD i 0)) i))) (by decide) (by decide) (by decide)
  simp only [World.size_alloc, List.length_cons, List.length_nil, Nat.zero_add, Nat.reduceAdd] at hlit
  have XA0 := XA.out.cell 0
  have XA1 := XA.out.cell 1
  have XA2 := fun ob => (XA.out.alloc ob).cell 0
  have XA3 := fun ob => (XA.out.alloc ob).cell 1
  have XR0 := XR.out.cell 0
  have XR1 := XR.out.cell 1
  have XR2 := fun ob => (XR.out.alloc ob).cell 0
  have XR3 := fun ob => (XR.out.alloc ob).cell 1
  have XK0 := XK.out.cell 0
  have XK1 := XK.out.cell 1
  have XK2 := fun ob => (XK.out.alloc ob).cell 0
  have XK3 := fun ob => (XK.out.alloc ob).cell 1
  go_wp2_with fail
  have hal : Below W5.heap.size W5 (((((W5.alloc (.cells #[.int .i64 4, .slice o5 4 c5] 24)).alloc (.cells (lsv [0, 2]).toArray 3)).alloc (.cells (lsv [1, 2]).toArray 3)).alloc (.cells (lsv [3]).toArray 3)).alloc (.cells #[.slice (some ⟨W5.heap.size + 1, 0, none⟩) 2 2, .slice (some ⟨W5.heap.size + 1 + 1, 0, none⟩) 2 2, .slice (some ⟨W5.heap.size + 1 + 1 + 1, 0, none⟩) 1 1] 25)) := ((((((Below.refl _ _).alloc (by first | exact Nat.le_refl _ | (simp; done) | (simp; omega)) _).alloc (by first | exact Nat.le_refl _ | (simp; done) | (simp; omega)) _).alloc (by first | exact Nat.le_refl _ | (simp; done) | (simp; omega)) _).alloc (by first | exact Nat.le_refl _ | (simp; done) | (simp; omega)) _).alloc (by first | exact Nat.le_refl _ | (simp; done) | (simp; omega)) _)
  refine (ex_same 3 (by omega) (fun i => ext ([0, 1, 3].getD i 0)) _ _ _ 3 (((((W5.alloc (.cells #[.int .i64 4, .slice o5 4 c5] 24)).alloc (.cells (lsv [0, 2]).toArray 3)).alloc (.cells (lsv [1, 2]).toArray 3)).alloc (.cells (lsv [3]).toArray 3)).alloc (.cells #[.slice (some ⟨W5.heap.size + 1, 0, none⟩) 2 2, .slice (some ⟨W5.heap.size + 1 + 1, 0, none⟩) 2 2, .slice (some ⟨W5.heap.size + 1 + 1 + 1, 0, none⟩) 1 1] 25)) (MR.out.below hal) hlit).mono ?_
  rintro e W6 ⟨rfl, hb⟩
  have hbb : Below W5.heap.size W5 W6 := hal.trans (hb.mono hal.size)
  have XT := Lib.hid (((Box.new W5 #[.int .i64 4, .slice o5 4 c5] 24).below (((((Below.refl _ _).alloc (Nat.le_refl _) _).alloc (by first | (simp; done) | (simp; omega)) _).alloc (by first | (simp; done) | (simp; omega)) _).alloc (by first | (simp; done) | (simp; omega)) _) (by first | (simp; done) | (simp; omega))).below hb (by first | (simp; done) | (simp; omega)))
  have HM := Lib.hid (HM.out.below hbb)
  have HT := Lib.hid (HT.out.here hbb)
  have HB := Lib.hid (HB.out.trans (Joins.below_le hbb HB.out.size))
  have XA := Lib.hid (XA.out.below hbb XA.out.lt)
  have MR := Lib.hid (MR.out.below hbb)
  have XR := Lib.hid (XR.out.below hbb XR.out.lt)
  have MK := Lib.hid (MK.out.below hbb)
  have XK := Lib.hid (XK.out.below hbb XK.out.lt)
  have MT2 := Lib.hid (MT2.out.below hbb)
  clear XA0 XA1 XA2 XA3 XR0 XR1 XR2 XR3 XK0 XK1 XK2 XK3
  clear hal hbb hb
  clear hlit
  have hlit := lit1' W6 3 25 [0, 1, 2] (fun i => ints (el 4 ((fun _ => 7) i))) (by decide)
  simp only [World.size_alloc, List.length_cons, List.length_nil, Nat.zero_add, Nat.reduceAdd] at hlit
  have XA0 := XA.out.cell 0
  have XA1 := XA.out.cell 1
  have XA2 := fun ob => (XA.out.alloc ob).cell 0
  have XA3 := fun ob => (XA.out.alloc ob).cell 1
  have XR0 := XR.out.cell 0
  have XR1 := XR.out.cell 1
  have XR2 := fun ob => (XR.out.alloc ob).cell 0
  have XR3 := fun ob => (XR.out.alloc ob).cell 1
  have XK0 := XK.out.cell 0
  have XK1 := XK.out.cell 1
  have XK2 := fun ob => (XK.out.alloc ob).cell 0
  have XK3 := fun ob => (XK.out.alloc ob).cell 1
  have XT0 := XT.out.cell 0
  have XT1 := XT.out.cell 1
  have XT2 := fun ob => (XT.out.alloc ob).cell 0
  have XT3 := fun ob => (XT.out.alloc ob).cell 1
  go_wp2_with fail
  have hal : Below W6.heap.size W6 ((W6.alloc (.cells (lsv [0, 1, 2]).toArray 3)).alloc (.cells #[.slice (some ⟨W6.heap.size, 0, none⟩) 3 3] 25)) := (((Below.refl _ _).alloc (by first | exact Nat.le_refl _ | (simp; done) | (simp; omega)) _).alloc (by first | exact Nat.le_refl _ | (simp; done) | (simp; omega)) _)
  refine (ex_same 1 (by omega) (fun _ => 7) _ _ _ 1 ((W6.alloc (.cells (lsv [0, 1, 2]).toArray 3)).alloc (.cells #[.slice (some ⟨W6.heap.size, 0, none⟩) 3 3] 25)) (MK.out.below hal) hlit).mono ?_
  rintro e W7 ⟨rfl, hb⟩
  have hbb : Below W6.heap.size W6 W7 := hal.trans (hb.mono hal.size)
  have HM := Lib.hid (HM.out.below hbb)
  have HT := Lib.hid (HT.out.here hbb)
  have HB := Lib.hid (HB.out.trans (Joins.below_le hbb HB.out.size))
  have XA := Lib.hid (XA.out.below hbb XA.out.lt)
  have MR := Lib.hid (MR.out.below hbb)
  have XR := Lib.hid (XR.out.below hbb XR.out.lt)
  have MK := Lib.hid (MK.out.below hbb)
  have XK := Lib.hid (XK.out.below hbb XK.out.lt)
  have MT2 := Lib.hid (MT2.out.below hbb)
  have XT := Lib.hid (XT.out.below hbb XT.out.lt)
  clear XA0 XA1 XA2 XA3 XR0 XR1 XR2 XR3 XK0 XK1 XK2 XK3 XT0 XT1 XT2 XT3
  clear hal hbb hb
  clear hlit
  have hlit := lit4' W7 3 25 [0, 2] [0, 1] [1, 2] [3] (fun i => ints (el 4 ((trr 4 exr) i))) (by decide) (by decide) (by decide) (by decide)
  simp only [World.size_alloc, List.length_cons, List.length_nil, Nat.zero_add, Nat.reduceAdd] at hlit
  have XA0 := XA.out.cell 0
  have XA1 := XA.out.cell 1
  have XA2 := fun ob => (XA.out.alloc ob).cell 0
  have XA3 := fun ob => (XA.out.alloc ob).cell 1
  have XR0 := XR.out.cell 0
  have XR1 := XR.out.cell 1
  have XR2 := fun ob => (XR.out.alloc ob).cell 0
  have XR3 := fun ob => (XR.out.alloc ob).cell 1
  have XK0 := XK.out.cell 0
  have XK1 := XK.out.cell 1
  have XK2 := fun ob => (XK.out.alloc ob).cell 0
  have XK3 := fun ob => (XK.out.alloc ob).cell 1
  have XT0 := XT.out.cell 0
  have XT1 := XT.out.cell 1
  have XT2 := fun ob => (XT.out.alloc ob).cell 0
  have XT3 := fun ob => (XT.out.alloc ob).cell 1
  go_wp2_with fail
  have hal : Below W7.heap.size W7 (((((W7.alloc (.cells (lsv [0, 2]).toArray 3)).alloc (.cells (lsv [0, 1]).toArray 3)).alloc (.cells (lsv [1, 2]).toArray 3)).alloc (.cells (lsv [3]).toArray 3)).alloc (.cells #[.slice (some ⟨W7.heap.size, 0, none⟩) 2 2, .slice (some ⟨W7.heap.size + 1, 0, none⟩) 2 2, .slice (some ⟨W7.heap.size + 1 + 1, 0, none⟩) 2 2, .slice (some ⟨W7.heap.size + 1 + 1 + 1, 0, none⟩) 1 1] 25)) := ((((((Below.refl _ _).alloc (by first | exact Nat.le_refl _ | (simp; done) | (simp; omega)) _).alloc (by first | exact Nat.le_refl _ | (simp; done) | (simp; omega)) _).alloc (by first | exact Nat.le_refl _ | (simp; done) | (simp; omega)) _).alloc (by first | exact Nat.le_refl _ | (simp; done) | (simp; omega)) _).alloc (by first | exact Nat.le_refl _ | (simp; done) | (simp; omega)) _)
  refine (ex_same 4 (by omega) (trr 4 exr) _ _ _ 4 (((((W7.alloc (.cells (lsv [0, 2]).toArray 3)).alloc (.cells (lsv [0, 1]).toArray 3)).alloc (.cells (lsv [1, 2]).toArray 3)).alloc (.cells (lsv [3]).toArray 3)).alloc (.cells #[.slice (some ⟨W7.heap.size, 0, none⟩) 2 2, .slice (some ⟨W7.heap.size + 1, 0, none⟩) 2 2, .slice (some ⟨W7.heap.size + 1 + 1, 0, none⟩) 2 2, .slice (some ⟨W7.heap.size + 1 + 1 + 1, 0, none⟩) 1 1] 25)) (MT2.out.below hal) hlit).mono ?_
  rintro e W8 ⟨rfl, hb⟩
  have hbb : Below W7.heap.size W7 W8 := hal.trans (hb.mono hal.size)
  have HM := Lib.hid (HM.out.below hbb)
  have HT := Lib.hid (HT.out.here hbb)
  have HB := Lib.hid (HB.out.trans (Joins.below_le hbb HB.out.size))
  have XA := Lib.hid (XA.out.below hbb XA.out.lt)
  have MR := Lib.hid (MR.out.below hbb)
  have XR := Lib.hid (XR.out.below hbb XR.out.lt)
  have MK := Lib.hid (MK.out.below hbb)
  have XK := Lib.hid (XK.out.below hbb XK.out.lt)
  have MT2 := Lib.hid (MT2.out.below hbb)
  have XT := Lib.hid (XT.out.below hbb XT.out.lt)
  clear XA0 XA1 XA2 XA3 XR0 XR1 XR2 XR3 XK0 XK1 XK2 XK3 XT0 XT1 XT2 XT3
  clear hal hbb hb
  clear hlit
  have XA0 := XA.out.cell 0
  have XA1 := XA.out.cell 1
  have XA2 := fun ob => (XA.out.alloc ob).cell 0
  have XA3 := fun ob => (XA.out.alloc ob).cell 1
  have XR0 := XR.out.cell 0
  have XR1 := XR.out.cell 1
  have XR2 := fun ob => (XR.out.alloc ob).cell 0
  have XR3 := fun ob => (XR.out.alloc ob).cell 1
  have XK0 := XK.out.cell 0
  have XK1 := XK.out.cell 1
  have XK2 := fun ob => (XK.out.alloc ob).cell 0
  have XK3 := fun ob => (XK.out.alloc ob).cell 1
  have XT0 := XT.out.cell 0
  have XT1 := XT.out.cell 1
  have XT2 := fun ob => (XT.out.alloc ob).cell 0
  have XT3 := fun ob => (XT.out.alloc ob).cell 1
  go_wp2_with fail
  have hal : Below W8.heap.size W8 (W8.alloc (.cells (lsv (ints [0, 1, 3])).toArray 3)) := ((Below.refl _ _).alloc (by first | exact Nat.le_refl _ | (simp; done) | (simp; omega)) _)
  refine (ex_s1 o _ cap 3 (W8.alloc (.cells (lsv (ints [0, 1, 3])).toArray 3)) (HM.out.below hal) (vl W8 [0, 1, 3] 3 rfl) (HT.out.here hal)).mono ?_
  rintro e W9 ⟨xo, xc, rfl, hlx, hb⟩
  have hbb : Below W8.heap.size W8 W9 := hal.trans (hb.mono hal.size)
  have LX := Lib.hid (hlx)
  have HM := Lib.hid (HM.out.below hbb)
  have HT := Lib.hid (HT.out.here hbb)
  have HB := Lib.hid (HB.out.trans (Joins.below_le hbb HB.out.size))
  have XA := Lib.hid (XA.out.below hbb XA.out.lt)
  have MR := Lib.hid (MR.out.below hbb)
  have XR := Lib.hid (XR.out.below hbb XR.out.lt)
  have MK := Lib.hid (MK.out.below hbb)
  have XK := Lib.hid (XK.out.below hbb XK.out.lt)
  have MT2 := Lib.hid (MT2.out.below hbb)
  have XT := Lib.hid (XT.out.below hbb XT.out.lt)
  clear XA0 XA1 XA2 XA3 XR0 XR1 XR2 XR3 XK0 XK1 XK2 XK3 XT0 XT1 XT2 XT3
  clear hal hbb hb
  clear hlx
  have XA0 := XA.out.cell 0
  have XA1 := XA.out.cell 1
  have XA2 := fun ob => (XA.out.alloc ob).cell 0
  have XA3 := fun ob => (XA.out.alloc ob).cell 1
  have XR0 := XR.out.cell 0
  have XR1 := XR.out.cell 1
  have XR2 := fun ob => (XR.out.alloc ob).cell 0
  have XR3 := fun ob => (XR.out.alloc ob).cell 1
  have XK0 := XK.out.cell 0
  have XK1 := XK.out.cell 1
  have XK2 := fun ob => (XK.out.alloc ob).cell 0
  have XK3 := fun ob => (XK.out.alloc ob).cell 1
  have XT0 := XT.out.cell 0
  have XT1 := XT.out.cell 1
  have XT2 := fun ob => (XT.out.alloc ob).cell 0
  have XT3 := fun ob => (XT.out.alloc ob).cell 1
  go_wp2_with fail
  have hal : Below W9.heap.size W9 (W9.alloc (.cells (lsv (ints [0])).toArray 3)) := ((Below.refl _ _).alloc (by first | exact Nat.le_refl _ | (simp; done) | (simp; omega)) _)
  refine (ex_s2 o _ cap 1 (W9.alloc (.cells (lsv (ints [0])).toArray 3)) (HM.out.below hal) (vl W9 [0] 1 rfl) (HT.out.here hal)).mono ?_
  rintro e W10 ⟨yo, yc, rfl, hly, hb⟩
  have hbb : Below W9.heap.size W9 W10 := hal.trans (hb.mono hal.size)
  have LY := Lib.hid (hly)
  have HM := Lib.hid (HM.out.below hbb)
  have HT := Lib.hid (HT.out.here hbb)
  have HB := Lib.hid (HB.out.trans (Joins.below_le hbb HB.out.size))
  have XA := Lib.hid (XA.out.below hbb XA.out.lt)
  have MR := Lib.hid (MR.out.below hbb)
  have XR := Lib.hid (XR.out.below hbb XR.out.lt)
  have MK := Lib.hid (MK.out.below hbb)
  have XK := Lib.hid (XK.out.below hbb XK.out.lt)
  have MT2 := Lib.hid (MT2.out.below hbb)
  have XT := Lib.hid (XT.out.below hbb XT.out.lt)
  have LX := Lib.hid (LX.out.below hbb)
  clear XA0 XA1 XA2 XA3 XR0 XR1 XR2 XR3 XK0 XK1 XK2 XK3 XT0 XT1 XT2 XT3
  clear hal hbb hb
  clear hly
  have XA0 := XA.out.cell 0
  have XA1 := XA.out.cell 1
  have XA2 := fun ob => (XA.out.alloc ob).cell 0
  have XA3 := fun ob => (XA.out.alloc ob).cell 1
  have XR0 := XR.out.cell 0
  have XR1 := XR.out.cell 1
  have XR2 := fun ob => (XR.out.alloc ob).cell 0
  have XR3 := fun ob => (XR.out.alloc ob).cell 1
  have XK0 := XK.out.cell 0
  have XK1 := XK.out.cell 1
  have XK2 := fun ob => (XK.out.alloc ob).cell 0
  have XK3 := fun ob => (XK.out.alloc ob).cell 1
  have XT0 := XT.out.cell 0
  have XT1 := XT.out.cell 1
  have XT2 := fun ob => (XT.out.alloc ob).cell 0
  have XT3 := fun ob => (XT.out.alloc ob).cell 1
  go_wp2_with fail
  have hal : Below W10.heap.size W10 (W10.alloc (.cells (lsv (ints [1, 3])).toArray 3)) := ((Below.refl _ _).alloc (by first | exact Nat.le_refl _ | (simp; done) | (simp; omega)) _)
  refine (ex_eq [1, 3] (by decide) 2 rfl xo _ xc 2 (W10.alloc (.cells (lsv (ints [1, 3])).toArray 3)) (LX.out.below hal) (vl W10 [1, 3] 2 rfl)).mono ?_
  rintro e W11 ⟨rfl, hb⟩
  have hbb : Below W10.heap.size W10 W11 := hal.trans (hb.mono hal.size)
  have HM := Lib.hid (HM.out.below hbb)
  have HT := Lib.hid (HT.out.here hbb)
  have HB := Lib.hid (HB.out.trans (Joins.below_le hbb HB.out.size))
  have XA := Lib.hid (XA.out.below hbb XA.out.lt)
  have MR := Lib.hid (MR.out.below hbb)
  have XR := Lib.hid (XR.out.below hbb XR.out.lt)
  have MK := Lib.hid (MK.out.below hbb)
  have XK := Lib.hid (XK.out.below hbb XK.out.lt)
  have MT2 := Lib.hid (MT2.out.below hbb)
  have XT := Lib.hid (XT.out.below hbb XT.out.lt)
  have LX := Lib.hid (LX.out.below hbb)
  have LY := Lib.hid (LY.out.below hbb)
  clear XA0 XA1 XA2 XA3 XR0 XR1 XR2 XR3 XK0 XK1 XK2 XK3 XT0 XT1 XT2 XT3
  clear hal hbb hb
  have XA0 := XA.out.cell 0
  have XA1 := XA.out.cell 1
  have XA2 := fun ob => (XA.out.alloc ob).cell 0
  have XA3 := fun ob => (XA.out.alloc ob).cell 1
  have XR0 := XR.out.cell 0
  have XR1 := XR.out.cell 1
  have XR2 := fun ob => (XR.out.alloc ob).cell 0
  have XR3 := fun ob => (XR.out.alloc ob).cell 1
  have XK0 := XK.out.cell 0
  have XK1 := XK.out.cell 1
  have XK2 := fun ob => (XK.out.alloc ob).cell 0
  have XK3 := fun ob => (XK.out.alloc ob).cell 1
  have XT0 := XT.out.cell 0
  have XT1 := XT.out.cell 1
  have XT2 := fun ob => (XT.out.alloc ob).cell 0
  have XT3 := fun ob => (XT.out.alloc ob).cell 1
  go_wp2_with fail
  have hal : Below W11.heap.size W11 (W11.alloc (.cells (lsv (ints [0, 1, 2])).toArray 3)) := ((Below.refl _ _).alloc (by first | exact Nat.le_refl _ | (simp; done) | (simp; omega)) _)
  refine (ex_eq [0, 1, 2] (by decide) 3 rfl yo _ yc 3 (W11.alloc (.cells (lsv (ints [0, 1, 2])).toArray 3)) (LY.out.below hal) (vl W11 [0, 1, 2] 3 rfl)).mono ?_
  rintro e W12 ⟨rfl, hb⟩
  have hbb : Below W11.heap.size W11 W12 := hal.trans (hb.mono hal.size)
  have HM := Lib.hid (HM.out.below hbb)
  have HT := Lib.hid (HT.out.here hbb)
  have HB := Lib.hid (HB.out.trans (Joins.below_le hbb HB.out.size))
  have XA := Lib.hid (XA.out.below hbb XA.out.lt)
  have MR := Lib.hid (MR.out.below hbb)
  have XR := Lib.hid (XR.out.below hbb XR.out.lt)
  have MK := Lib.hid (MK.out.below hbb)
  have XK := Lib.hid (XK.out.below hbb XK.out.lt)
  have MT2 := Lib.hid (MT2.out.below hbb)
  have XT := Lib.hid (XT.out.below hbb XT.out.lt)
  have LX := Lib.hid (LX.out.below hbb)
  have LY := Lib.hid (LY.out.below hbb)
  clear XA0 XA1 XA2 XA3 XR0 XR1 XR2 XR3 XK0 XK1 XK2 XK3 XT0 XT1 XT2 XT3
  clear hal hbb hb
  have XA0 := XA.out.cell 0
  have XA1 := XA.out.cell 1
  have XA2 := fun ob => (XA.out.alloc ob).cell 0
  have XA3 := fun ob => (XA.out.alloc ob).cell 1
  have XR0 := XR.out.cell 0
  have XR1 := XR.out.cell 1
  have XR2 := fun ob => (XR.out.alloc ob).cell 0
  have XR3 := fun ob => (XR.out.alloc ob).cell 1
  have XK0 := XK.out.cell 0
  have XK1 := XK.out.cell 1
  have XK2 := fun ob => (XK.out.alloc ob).cell 0
  have XK3 := fun ob => (XK.out.alloc ob).cell 1
  have XT0 := XT.out.cell 0
  have XT1 := XT.out.cell 1
  have XT2 := fun ob => (XT.out.alloc ob).cell 0
  have XT3 := fun ob => (XT.out.alloc ob).cell 1
  go_wp2_with fail
  have hal : Below W12.heap.size W12 (W12.alloc (.cells (lsv (ints [0])).toArray 3)) := ((Below.refl _ _).alloc (by first | exact Nat.le_refl _ | (simp; done) | (simp; omega)) _)
  refine (ex_v1 o _ yo cap 1 yc (W12.alloc (.cells (lsv (ints [0])).toArray 3)) (HT.out.here hal) (HM.out.below hal) (vl W12 [0] 1 rfl) (LY.out.below hal)).mono ?_
  rintro e W13 ⟨rfl, hb⟩
  have hbb : Below W12.heap.size W12 W13 := hal.trans (hb.mono hal.size)
  have HM := Lib.hid (HM.out.below hbb)
  have HT := Lib.hid (HT.out.here hbb)
  have HB := Lib.hid (HB.out.trans (Joins.below_le hbb HB.out.size))
  have XA := Lib.hid (XA.out.below hbb XA.out.lt)
  have MR := Lib.hid (MR.out.below hbb)
  have XR := Lib.hid (XR.out.below hbb XR.out.lt)
  have MK := Lib.hid (MK.out.below hbb)
  have XK := Lib.hid (XK.out.below hbb XK.out.lt)
  have MT2 := Lib.hid (MT2.out.below hbb)
  have XT := Lib.hid (XT.out.below hbb XT.out.lt)
  have LX := Lib.hid (LX.out.below hbb)
  have LY := Lib.hid (LY.out.below hbb)
  clear XA0 XA1 XA2 XA3 XR0 XR1 XR2 XR3 XK0 XK1 XK2 XK3 XT0 XT1 XT2 XT3
  clear hal hbb hb
  have XA0 := XA.out.cell 0
  have XA1 := XA.out.cell 1
  have XA2 := fun ob => (XA.out.alloc ob).cell 0
  have XA3 := fun ob => (XA.out.alloc ob).cell 1
  have XR0 := XR.out.cell 0
  have XR1 := XR.out.cell 1
  have XR2 := fun ob => (XR.out.alloc ob).cell 0
  have XR3 := fun ob => (XR.out.alloc ob).cell 1
  have XK0 := XK.out.cell 0
  have XK1 := XK.out.cell 1
  have XK2 := fun ob => (XK.out.alloc ob).cell 0
  have XK3 := fun ob => (XK.out.alloc ob).cell 1
  have XT0 := XT.out.cell 0
  have XT1 := XT.out.cell 1
  have XT2 := fun ob => (XT.out.alloc ob).cell 0
  have XT3 := fun ob => (XT.out.alloc ob).cell 1
  go_wp2_with fail
  have hal : Below W13.heap.size W13 (W13.alloc (.cells (lsv (ints [0, 1, 3])).toArray 3)) := ((Below.refl _ _).alloc (by first | exact Nat.le_refl _ | (simp; done) | (simp; omega)) _)
  refine (ex_v2 o _ yo cap 3 yc (W13.alloc (.cells (lsv (ints [0, 1, 3])).toArray 3)) (HT.out.here hal) (HM.out.below hal) (vl W13 [0, 1, 3] 3 rfl) (LY.out.below hal)).mono ?_
  rintro e W14 ⟨rfl, hb⟩
  have hbb : Below W13.heap.size W13 W14 := hal.trans (hb.mono hal.size)
  have HM := Lib.hid (HM.out.below hbb)
  have HT := Lib.hid (HT.out.here hbb)
  have HB := Lib.hid (HB.out.trans (Joins.below_le hbb HB.out.size))
  have XA := Lib.hid (XA.out.below hbb XA.out.lt)
  have MR := Lib.hid (MR.out.below hbb)
  have XR := Lib.hid (XR.out.below hbb XR.out.lt)
  have MK := Lib.hid (MK.out.below hbb)
  have XK := Lib.hid (XK.out.below hbb XK.out.lt)
  have MT2 := Lib.hid (MT2.out.below hbb)
  have XT := Lib.hid (XT.out.below hbb XT.out.lt)
  have LX := Lib.hid (LX.out.below hbb)
  have LY := Lib.hid (LY.out.below hbb)
  clear XA0 XA1 XA2 XA3 XR0 XR1 XR2 XR3 XK0 XK1 XK2 XK3 XT0 XT1 XT2 XT3
  clear hal hbb hb
  go_wp2_with fail
  go_ret
  exact ⟨rfl, HB.out⟩

end Go.Proofs.YtbefkngeffpokaaDoor
