/- Verify where it answers an error of its arguments. -/
import Derived.Test.YtbefkngeffpokaaDoorMxJ
import Derived.Test.YtbefkngeffpokaaDoorMxL
import Derived.WalkKit
import Derived.WalkSpells
import Derived.WalkLawsBesides
import Derived.Handy
import Derived.Deep.QuietTactic
import Derived.BigQuiet
import Derived.Outline
import Derived.Laws.BitsAllLaws
import Derived.IntWalk
import Derived.Lib.SmallJoins
import Derived.Lib.Hide
import Derived.Deep.DeepCutAuto
import Derived.LoopTactic
import Derived.Deep.RegionWith
import Derived.Laws.CopyOwn
import Derived.Maps.OwnOps
import Derived.Maps.OwnSet
import Derived.Laws.OwnMore
import Derived.Maps.AppendAt
import Derived.RangeFuncNested
import Derived.RangeFuncBound
import Derived.RangeFuncCalls
import Derived.RangeFuncLeaves
import Derived.RangeFuncBox
import Derived.RangeFuncFrom
import Derived.Shelf.Abstract
import Derived.Shelf.RegionOpen
import Derived.OwnWalkIn
import Derived.TacticsInMore
import Derived.LoopNIn
import Derived.LoopIn
import Derived.Deep.RegionHeld3
import Derived.RegionTactic
import Derived.ChangeAlike
namespace Go.Proofs.YtbefkngeffpokaaDoor
set_option linter.unusedVariables false
set_option linter.unusedSimpArgs false
open Go.RowKit

theorem rverify_bad (C : Int) (K : Nat) (o : Option Addr) (cap : Nat) (v1 v2 : Value) (w : World) (c : Int) (h0 : c ≠ 0) (hck : ∀ W, Below w.heap.size w W → Calls Tryd.prog 19 #[mv C o K cap] W fun e w' => e = .returned (.int .i64 c) ∧ Below W.heap.size W w') :
    Calls Tryd.prog 34 #[mv C o K cap, v1, v2] w fun e w' => e = .returned (.int .i64 c) ∧ Below w.heap.size w w' := by
  have hb0 := mbel w C o K cap
  have H := Lib.hid (hck _ hb0)
  have HB := Lib.hid hb0
  have HBx := Lib.hid (mbox w C o K cap)
  have g1 : (c != 0) = true := by rw [bne_iff_ne]; exact h0
  unfold mv at H ⊢
  clear hck h0 hb0
  go_enter Tryd.func34, Tryd.ntmps34
  go_wp2_with fail
  refine H.out.mono ?_
  rintro e W1 ⟨rfl, hb1⟩
  have HB1 := Lib.hid (HB.out.trans (Joins.below_le hb1 HB.out.size))
  have hx1 := HBx.out.below hb1 (by simp)
  have q0 := hx1.cell 0
  have q1 := hx1.cell 1
  clear hb1 hx1
  go_wp2_with fail
  go_ret
  exact ⟨rfl, HB1.out⟩
theorem rverify_bad2 (C : Int) (K : Nat) (hK : K ≤ 1000000000) (o : Option Addr) (cap : Nat) (n : Nat) (hn : n ≤ 1000000000) (f : Nat → Int) (p : Option Addr) (cp : Nat) (v2 : Value) (w : World) (hL : Lz w p n f) (c : Int) (hc : vcode (K : Int) n f = c) (h0 : c ≠ 0) (hck : ∀ W, Below w.heap.size w W → Calls Tryd.prog 19 #[mv C o K cap] W fun e w' => e = .returned (.int .i64 0) ∧ Below W.heap.size W w') :
    Calls Tryd.prog 34 #[mv C o K cap, .slice p n cp, v2] w fun e w' => e = .returned (.int .i64 c) ∧ Below w.heap.size w w' := by
  have hb0 := mbel w C o K cap
  have H := Lib.hid (hck _ hb0)
  have HB := Lib.hid hb0
  have HBx := Lib.hid (mbox w C o K cap)
  have g1 : (c != 0) = true := by rw [bne_iff_ne]; exact h0
  have hV1 := fun W (h : Below w.heap.size w W) => rvec_any (K : Int) n hn f p cp W (hL.below h)
  rw [hc] at hV1
  have HV1 := Lib.hid hV1
  unfold mv at H ⊢
  clear hck h0 hb0 hV1 hL hc
  go_enter Tryd.func34, Tryd.ntmps34
  go_wp2_with fail
  refine H.out.mono ?_
  rintro e W1 ⟨rfl, hb1⟩
  have HB1 := Lib.hid (HB.out.trans (Joins.below_le hb1 HB.out.size))
  have hx1 := HBx.out.below hb1 (by simp)
  have q0 := hx1.cell 0
  have q1 := hx1.cell 1
  clear hb1 hx1
  go_wp2_with fail
  refine (HV1.out _ HB1.out).mono ?_
  rintro e W2 ⟨rfl, d, rfl⟩
  have HB2 := Lib.hid (below_dn d HB1.out)
  go_wp2_with fail
  go_ret
  exact ⟨rfl, HB2.out⟩
theorem rverify_bad3 (C : Int) (K : Nat) (hK : K ≤ 1000000000) (o : Option Addr) (cap : Nat) (n : Nat) (hn : n ≤ 1000000000) (f : Nat → Int) (p : Option Addr) (cp : Nat) (m : Nat) (hm : m ≤ 1000000000) (g : Nat → Int) (q : Option Addr) (cq : Nat) (w : World) (hL : Lz w p n f) (hL' : Lz w q m g) (c : Int) (hc1 : vcode (K : Int) n f = 0) (hc : vcode (K : Int) m g = c) (h0 : c ≠ 0) (hck : ∀ W, Below w.heap.size w W → Calls Tryd.prog 19 #[mv C o K cap] W fun e w' => e = .returned (.int .i64 0) ∧ Below W.heap.size W w') :
    Calls Tryd.prog 34 #[mv C o K cap, .slice p n cp, .slice q m cq] w fun e w' => e = .returned (.int .i64 c) ∧ Below w.heap.size w w' := by
  have hb0 := mbel w C o K cap
  have H := Lib.hid (hck _ hb0)
  have HB := Lib.hid hb0
  have HBx := Lib.hid (mbox w C o K cap)
  have g1 : (c != 0) = true := by rw [bne_iff_ne]; exact h0
  have hV1 := fun W (h : Below w.heap.size w W) => rvec_any (K : Int) n hn f p cp W (hL.below h)
  rw [hc1] at hV1
  have hV2 := fun W (h : Below w.heap.size w W) => rvec_any (K : Int) m hm g q cq W (hL'.below h)
  rw [hc] at hV2
  have HV1 := Lib.hid hV1
  have HV2 := Lib.hid hV2
  unfold mv at H ⊢
  clear hck h0 hb0 hV1 hV2 hL hL' hc hc1
  go_enter Tryd.func34, Tryd.ntmps34
  go_wp2_with fail
  refine H.out.mono ?_
  rintro e W1 ⟨rfl, hb1⟩
  have HB1 := Lib.hid (HB.out.trans (Joins.below_le hb1 HB.out.size))
  have hx1 := HBx.out.below hb1 (by simp)
  have q0 := hx1.cell 0
  have q1 := hx1.cell 1
  clear hb1 hx1
  go_wp2_with fail
  refine (HV1.out _ HB1.out).mono ?_
  rintro e W2 ⟨rfl, d, rfl⟩
  have HB2 := Lib.hid (below_dn d HB1.out)
  go_wp2_with fail
  refine (HV2.out _ HB2.out).mono ?_
  rintro e W3 ⟨rfl, d2, rfl⟩
  have HB3 := Lib.hid (below_dn (d + d2) HB1.out)
  go_wp2_with fail
  go_ret
  exact ⟨rfl, HB3.out⟩
theorem verify_bad (C : Int) (K : Nat) (o : Option Addr) (cap : Nat) (v1 v2 : Value) (w : World) (c : Int) (h0 : c ≠ 0) (hck : ∀ W, Below w.heap.size w W → Calls Tryd.prog 18 #[mv C o K cap] W fun e w' => e = .returned (.int .i64 c) ∧ Below W.heap.size W w') :
    Calls Tryd.prog 35 #[mv C o K cap, v1, v2] w fun e w' => e = .returned (.int .i64 c) ∧ Below w.heap.size w w' := by
  have hb0 := mbel w C o K cap
  have H := Lib.hid (hck _ hb0)
  have HB := Lib.hid hb0
  have HBx := Lib.hid (mbox w C o K cap)
  have g1 : (c != 0) = true := by rw [bne_iff_ne]; exact h0
  unfold mv at H ⊢
  clear hck h0 hb0
  go_enter Tryd.func35, Tryd.ntmps35
  go_wp2_with fail
  refine H.out.mono ?_
  rintro e W1 ⟨rfl, hb1⟩
  have HB1 := Lib.hid (HB.out.trans (Joins.below_le hb1 HB.out.size))
  have hx1 := HBx.out.below hb1 (by simp)
  have q0 := hx1.cell 0
  have q1 := hx1.cell 1
  clear hb1 hx1
  go_wp2_with fail
  go_ret
  exact ⟨rfl, HB1.out⟩
theorem verify_bad2 (C : Int) (K : Nat) (hK : K ≤ 1000000000) (o : Option Addr) (cap : Nat) (n : Nat) (hn : n ≤ 1000000000) (f : Nat → Int) (p : Option Addr) (cp : Nat) (v2 : Value) (w : World) (hL : Lz w p n f) (c : Int) (hc : vcode (K : Int) n f = c) (h0 : c ≠ 0) (hck : ∀ W, Below w.heap.size w W → Calls Tryd.prog 18 #[mv C o K cap] W fun e w' => e = .returned (.int .i64 0) ∧ Below W.heap.size W w') :
    Calls Tryd.prog 35 #[mv C o K cap, .slice p n cp, v2] w fun e w' => e = .returned (.int .i64 c) ∧ Below w.heap.size w w' := by
  have hb0 := mbel w C o K cap
  have H := Lib.hid (hck _ hb0)
  have HB := Lib.hid hb0
  have HBx := Lib.hid (mbox w C o K cap)
  have g1 : (c != 0) = true := by rw [bne_iff_ne]; exact h0
  have hV1 := fun W (h : Below w.heap.size w W) => cvec_any (K : Int) n hn f p cp W (hL.below h)
  rw [hc] at hV1
  have HV1 := Lib.hid hV1
  unfold mv at H ⊢
  clear hck h0 hb0 hV1 hL hc
  go_enter Tryd.func35, Tryd.ntmps35
  go_wp2_with fail
  refine H.out.mono ?_
  rintro e W1 ⟨rfl, hb1⟩
  have HB1 := Lib.hid (HB.out.trans (Joins.below_le hb1 HB.out.size))
  have hx1 := HBx.out.below hb1 (by simp)
  have q0 := hx1.cell 0
  have q1 := hx1.cell 1
  clear hb1 hx1
  go_wp2_with fail
  refine (HV1.out _ HB1.out).mono ?_
  rintro e W2 ⟨rfl, rfl⟩
  have HB2 := Lib.hid (HB1.out)
  go_wp2_with fail
  go_ret
  exact ⟨rfl, HB2.out⟩
theorem verify_bad3 (C : Int) (K : Nat) (hK : K ≤ 1000000000) (o : Option Addr) (cap : Nat) (n : Nat) (hn : n ≤ 1000000000) (f : Nat → Int) (p : Option Addr) (cp : Nat) (m : Nat) (hm : m ≤ 1000000000) (g : Nat → Int) (q : Option Addr) (cq : Nat) (w : World) (hL : Lz w p n f) (hL' : Lz w q m g) (c : Int) (hc1 : vcode (K : Int) n f = 0) (hc : vcode (K : Int) m g = c) (h0 : c ≠ 0) (hck : ∀ W, Below w.heap.size w W → Calls Tryd.prog 18 #[mv C o K cap] W fun e w' => e = .returned (.int .i64 0) ∧ Below W.heap.size W w') :
    Calls Tryd.prog 35 #[mv C o K cap, .slice p n cp, .slice q m cq] w fun e w' => e = .returned (.int .i64 c) ∧ Below w.heap.size w w' := by
  have hb0 := mbel w C o K cap
  have H := Lib.hid (hck _ hb0)
  have HB := Lib.hid hb0
  have HBx := Lib.hid (mbox w C o K cap)
  have g1 : (c != 0) = true := by rw [bne_iff_ne]; exact h0
  have hV1 := fun W (h : Below w.heap.size w W) => cvec_any (K : Int) n hn f p cp W (hL.below h)
  rw [hc1] at hV1
  have hV2 := fun W (h : Below w.heap.size w W) => cvec_any (K : Int) m hm g q cq W (hL'.below h)
  rw [hc] at hV2
  have HV1 := Lib.hid hV1
  have HV2 := Lib.hid hV2
  unfold mv at H ⊢
  clear hck h0 hb0 hV1 hV2 hL hL' hc hc1
  go_enter Tryd.func35, Tryd.ntmps35
  go_wp2_with fail
  refine H.out.mono ?_
  rintro e W1 ⟨rfl, hb1⟩
  have HB1 := Lib.hid (HB.out.trans (Joins.below_le hb1 HB.out.size))
  have hx1 := HBx.out.below hb1 (by simp)
  have q0 := hx1.cell 0
  have q1 := hx1.cell 1
  clear hb1 hx1
  go_wp2_with fail
  refine (HV1.out _ HB1.out).mono ?_
  rintro e W2 ⟨rfl, rfl⟩
  have HB2 := Lib.hid (HB1.out)
  go_wp2_with fail
  refine (HV2.out _ HB2.out).mono ?_
  rintro e W3 ⟨rfl, rfl⟩
  have HB3 := Lib.hid (HB1.out)
  go_wp2_with fail
  go_ret
  exact ⟨rfl, HB3.out⟩

end Go.Proofs.YtbefkngeffpokaaDoor
