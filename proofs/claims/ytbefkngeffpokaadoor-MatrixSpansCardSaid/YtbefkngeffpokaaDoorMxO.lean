/- The specification's Multiply. -/
import Derived.Test.YtbefkngeffpokaaDoorMxN
import Derived.WalkKit
import Derived.WalkSpells
import Derived.WalkLawsBesides
import Derived.Handy
import Derived.Deep.QuietTactic
import Derived.BigQuiet
import Derived.Outline
import Derived.Laws.BitsAllLaws
import Derived.IntWalk
import Derived.Lib.SmallJoins
import Derived.Lib.Hide
import Derived.Deep.DeepCutAuto
import Derived.LoopTactic
import Derived.Deep.RegionWith
import Derived.Laws.CopyOwn
import Derived.Maps.OwnOps
import Derived.Maps.OwnSet
import Derived.Laws.OwnMore
import Derived.Maps.AppendAt
import Derived.RangeFuncNested
import Derived.RangeFuncBound
import Derived.RangeFuncCalls
import Derived.RangeFuncLeaves
import Derived.RangeFuncBox
import Derived.RangeFuncFrom
import Derived.Shelf.Abstract
import Derived.Shelf.RegionOpen
import Derived.OwnWalkIn
import Derived.TacticsInMore
import Derived.LoopNIn
import Derived.LoopIn
import Derived.Deep.RegionHeld3
import Derived.RegionTactic
import Derived.ChangeAlike
import Derived.Deep.RegionLaw
import Derived.Deep.AppendLies
namespace Go.Proofs.YtbefkngeffpokaaDoor
set_option linter.unusedVariables false
set_option linter.unusedSimpArgs false
open Go.RowKit

theorem w3_facts (w : World) (C : Int) (o : Option Addr) (K cap : Nat) (D : Int) (p : Option Addr) (M cap' : Nat) : Below w.heap.size w (((w.alloc (.cells #[.int .i64 C, .slice o K cap] 24)).alloc (.cells #[.int .i64 D, .slice p M cap'] 24)).alloc (.cells #[.int .i64 0, .slice none 0 0] 24)) ∧ Box (((w.alloc (.cells #[.int .i64 C, .slice o K cap] 24)).alloc (.cells #[.int .i64 D, .slice p M cap'] 24)).alloc (.cells #[.int .i64 0, .slice none 0 0] 24)) w.heap.size #[.int .i64 C, .slice o K cap] 24 ∧ Box (((w.alloc (.cells #[.int .i64 C, .slice o K cap] 24)).alloc (.cells #[.int .i64 D, .slice p M cap'] 24)).alloc (.cells #[.int .i64 0, .slice none 0 0] 24)) (w.heap.size + 1) #[.int .i64 D, .slice p M cap'] 24 ∧ Box (((w.alloc (.cells #[.int .i64 C, .slice o K cap] 24)).alloc (.cells #[.int .i64 D, .slice p M cap'] 24)).alloc (.cells #[.int .i64 0, .slice none 0 0] 24)) (w.heap.size + 1 + 1) #[.int .i64 0, .slice none 0 0] 24 :=
  ⟨(((Below.refl _ _).alloc (Nat.le_refl _) _).alloc (by simp) _).alloc (by simp; omega) _, ((Box.new w _ _).alloc _).alloc _, by have h := (Box.new (w.alloc (.cells #[.int .i64 C, .slice o K cap] 24)) #[.int .i64 D, .slice p M cap'] 24).alloc (.cells #[.int .i64 0, .slice none 0 0] 24); rwa [World.size_alloc] at h, by have h := Box.new ((w.alloc (.cells #[.int .i64 C, .slice o K cap] 24)).alloc (.cells #[.int .i64 D, .slice p M cap'] 24)) #[.int .i64 0, .slice none 0 0] 24; rwa [World.size_alloc, World.size_alloc] at h⟩
theorem rmul_bad (C D : Int) (K M : Nat) (o p : Option Addr) (cap cap' : Nat) (w : World) (c : Int) (h0 : c ≠ 0) (hck : ∀ W, Below w.heap.size w W → Calls Tryd.prog 36 #[mv C o K cap, mv D p M cap'] W fun e w' => e = .returned (.int .i64 c) ∧ Below W.heap.size W w') :
    Calls Tryd.prog 25 #[mv C o K cap, mv D p M cap'] w (MRes 0 0 (fun _ => 0) c w) := by
  have g1 : (c != 0) = true := by rw [bne_iff_ne]; exact h0
  obtain ⟨f1, f2, f4, f3⟩ := w3_facts w C o K cap D p M cap'
  obtain ⟨S, hS⟩ : ∃ n, w.heap.size = n := ⟨_, rfl⟩
  have H := Lib.hid (hck _ f1)
  have HB := Lib.hid f1
  have HR := Lib.hid f3
  unfold mv at H ⊢
  clear hck h0 f1 f2 f3 f4
  go_enter Tryd.func25, Tryd.ntmps25
  go_wp2_with fail
  refine H.out.mono ?_
  rintro e W1 ⟨rfl, hb1⟩
  have hr1 := HR.out.below hb1 HR.out.lt
  rw [hS] at hr1
  have d0 := hr1.cell 0
  have d1 := hr1.cell 1
  have g0 := hr1.open_ 0
  have g2 := hr1.open_ 1
  have hfb := (hr1.set 0 (.int .i64 0)).set 1 (.slice none 0 0)
  have hfw := ((HB.out.trans (Joins.below_le hb1 HB.out.size)).setCell (p := ⟨S + 1 + 1, 0, none⟩) (by show w.heap.size ≤ S + 1 + 1; omega) (.int .i64 0)).setCell (p := ⟨S + 1 + 1, 1, none⟩) (by show w.heap.size ≤ S + 1 + 1; omega) (.slice none 0 0)
  have HFB := Lib.hid hfb
  have HFW := Lib.hid hfw
  clear hb1 hr1 hfb hfw
  go_wp2_with fail
  have z0 := HFB.out.cell 0
  have z1 := HFB.out.cell 1
  simp at z0 z1
  refine bodyPost_ret (v := .tuple #[.agg #[.int .i64 0, .slice none 0 0], .int .i64 c]) (by simp [results, Tryd.results25, go_sem, z0, z1]) rfl ⟨_, _, rfl, Mn.nil _ _ _ _, ?_⟩
  first | exact HFW.out | (rw [hS]; have h := HFW.out; rwa [hS] at h)

theorem rmul_shape (C D : Int) (K M : Nat) (o p : Option Addr) (cap cap' : Nat) (w : World) (h0 : C ≠ (M : Int)) (hM : M ≤ 1000000000) (hck : ∀ W, Below w.heap.size w W → Calls Tryd.prog 36 #[mv C o K cap, mv D p M cap'] W fun e w' => e = .returned (.int .i64 0) ∧ Below W.heap.size W w') :
    Calls Tryd.prog 25 #[mv C o K cap, mv D p M cap'] w (MRes 0 0 (fun _ => 0) 15 w) := by
  have g1 : (C != (M : Int)) = true := by rw [bne_iff_ne]; exact h0
  obtain ⟨f1, f2, f4, f3⟩ := w3_facts w C o K cap D p M cap'
  obtain ⟨S, hS⟩ : ∃ n, w.heap.size = n := ⟨_, rfl⟩
  have H := Lib.hid (hck _ f1)
  have HB := Lib.hid f1
  have HA := Lib.hid f2
  have HC := Lib.hid f4
  have HR := Lib.hid f3
  unfold mv at H ⊢
  clear hck h0 f1 f2 f3 f4
  go_enter Tryd.func25, Tryd.ntmps25
  go_wp2_with fail
  refine H.out.mono ?_
  rintro e W1 ⟨rfl, hb1⟩
  have hr1 := HR.out.below hb1 HR.out.lt
  have ha1 := HA.out.below hb1 HA.out.lt
  have hc1 := HC.out.below hb1 HC.out.lt
  rw [hS] at hr1 ha1 hc1
  have q0 := ha1.cell 0
  have q1 := hc1.cell 1
  have d0 := hr1.cell 0
  have d1 := hr1.cell 1
  have g0 := hr1.open_ 0
  have g2 := hr1.open_ 1
  have hfb := (hr1.set 0 (.int .i64 0)).set 1 (.slice none 0 0)
  have hfw := ((HB.out.trans (Joins.below_le hb1 HB.out.size)).setCell (p := ⟨S + 1 + 1, 0, none⟩) (by show w.heap.size ≤ S + 1 + 1; omega) (.int .i64 0)).setCell (p := ⟨S + 1 + 1, 1, none⟩) (by show w.heap.size ≤ S + 1 + 1; omega) (.slice none 0 0)
  have HFB := Lib.hid hfb
  have HFW := Lib.hid hfw
  clear hb1 hr1 hfb hfw ha1 hc1
  go_wp2_with fail
  have z0 := HFB.out.cell 0
  have z1 := HFB.out.cell 1
  simp at z0 z1
  refine bodyPost_ret (v := .tuple #[.agg #[.int .i64 0, .slice none 0 0], .int .i64 15]) (by simp [results, Tryd.results25, go_sem, z0, z1]) rfl ⟨_, _, rfl, Mn.nil _ _ _ _, ?_⟩
  first | exact HFW.out | (rw [hS]; have h := HFW.out; rwa [hS] at h)

theorem rmul_good (C D K : Nat) (hC : C ≤ 31) (hD : D ≤ 31) (hK : K ≤ 31) (a b : Nat → Nat) (o p : Option Addr) (cap cap' : Nat) (w : World) (hM : Mx w o K C a) (hM' : Mx w p C D b) (hck : ∀ W, Below w.heap.size w W → Calls Tryd.prog 36 #[mv (C : Int) o K cap, mv (D : Int) p C cap'] W fun e w' => e = .returned (.int .i64 0) ∧ Below W.heap.size W w') :
    Calls Tryd.prog 25 #[mv (C : Int) o K cap, mv (D : Int) p C cap'] w (MRes D K (mulr C a b) 0 w) := by
  obtain ⟨f1, f2, f4, f3⟩ := w3_facts w (C : Int) o K cap (D : Int) p C cap'
  obtain ⟨S, hS⟩ : ∃ n, w.heap.size = n := ⟨_, rfl⟩
  have H := Lib.hid (hck _ f1)
  have HT := Lib.hid (fun W (h : Below w.heap.size w W) => times_ok C D K hD hC hK a b o p cap cap' W (hM.below h) (hM'.below h))
  have HB := Lib.hid f1
  have HA := Lib.hid f2
  have HC := Lib.hid f4
  have HR := Lib.hid f3
  unfold mv at H HT ⊢
  clear hM hM' hck f1 f2 f3 f4
  go_enter Tryd.func25, Tryd.ntmps25
  go_wp2_with fail
  refine H.out.mono ?_
  rintro e W1 ⟨rfl, hb1⟩
  have hr1 := HR.out.below hb1 HR.out.lt
  have ha1 := HA.out.below hb1 HA.out.lt
  have hc1 := HC.out.below hb1 HC.out.lt
  rw [hS] at hr1 ha1 hc1
  have q0 := ha1.cell 0
  have q1 := ha1.cell 1
  have q2 := hc1.cell 0
  have q3 := hc1.cell 1
  have HB1 := Lib.hid (HB.out.trans (Joins.below_le hb1 HB.out.size))
  have HR1 := Lib.hid hr1
  clear hb1 hr1 ha1 hc1
  go_wp2_with fail
  refine (HT.out _ HB1.out).mono ?_
  rintro e W2 ⟨o', c', rfl, hmx, hb2⟩
  have hr1 := (HR1.out.below hb2 (by have := HR1.out.lt; omega))
  have hsl : S + 1 + 1 < W1.heap.size := HR1.out.lt
  have d0 := hr1.cell 0
  have d1 := hr1.cell 1
  have g0 := hr1.open_ 0
  have g2 := hr1.open_ 1
  have hfb := (hr1.set 0 (.int .i64 (D : Int))).set 1 (.slice o' K c')
  have hfw := ((HB1.out.trans (Joins.below_le hb2 HB1.out.size)).setCell (p := ⟨S + 1 + 1, 0, none⟩) (by show w.heap.size ≤ S + 1 + 1; omega) (.int .i64 (D : Int))).setCell (p := ⟨S + 1 + 1, 1, none⟩) (by show w.heap.size ≤ S + 1 + 1; omega) (.slice o' K c')
  have HFB := Lib.hid hfb
  have HFW := Lib.hid hfw
  have hfm := ((hmx.set (b := S + 1 + 1) (i := 0) hsl (.int .i64 (D : Int))).set (b := S + 1 + 1) (i := 1) hsl (.slice o' K c')).le HB1.out.size
  have HFM := Lib.hid hfm
  clear hb2 hr1 hfb hfw hfm hmx hsl
  go_wp2_with fail
  have z0 := HFB.out.cell 0
  have z1 := HFB.out.cell 1
  simp at z0 z1
  refine bodyPost_ret (v := .tuple #[.agg #[.int .i64 (D : Int), .slice o' K c'], .int .i64 0]) (by simp [results, Tryd.results25, go_sem, z0, z1]) rfl ⟨_, _, rfl, HFM.out, ?_⟩
  first | exact HFW.out | (rw [hS]; have h := HFW.out; rwa [hS] at h)


end Go.Proofs.YtbefkngeffpokaaDoor
