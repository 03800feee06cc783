/- The package's Transpose, Multiply and Add where they answer an error. -/
import Derived.Test.YtbefkngeffpokaaDoorMxO
import Derived.WalkKit
import Derived.WalkSpells
import Derived.WalkLawsBesides
import Derived.Handy
import Derived.Deep.QuietTactic
import Derived.BigQuiet
import Derived.Outline
import Derived.Laws.BitsAllLaws
import Derived.IntWalk
import Derived.Lib.SmallJoins
import Derived.Lib.Hide
import Derived.Deep.DeepCutAuto
import Derived.LoopTactic
import Derived.Deep.RegionWith
import Derived.Laws.CopyOwn
import Derived.Maps.OwnOps
import Derived.Maps.OwnSet
import Derived.Laws.OwnMore
import Derived.Maps.AppendAt
import Derived.RangeFuncNested
import Derived.RangeFuncBound
import Derived.RangeFuncCalls
import Derived.RangeFuncLeaves
import Derived.RangeFuncBox
import Derived.RangeFuncFrom
import Derived.Shelf.Abstract
import Derived.Shelf.RegionOpen
import Derived.OwnWalkIn
import Derived.TacticsInMore
import Derived.LoopNIn
import Derived.LoopIn
import Derived.Deep.RegionHeld3
import Derived.RegionTactic
import Derived.ChangeAlike
import Derived.Deep.RegionLaw
import Derived.Deep.AppendLies
namespace Go.Proofs.YtbefkngeffpokaaDoor
set_option linter.unusedVariables false
set_option linter.unusedSimpArgs false
open Go.RowKit

theorem trans_bad (C : Int) (K : Nat) (o : Option Addr) (cap : Nat) (w : World) (c : Int) (h0 : c ≠ 0) (hck : ∀ W, Below w.heap.size w W → Calls Tryd.prog 18 #[mv C o K cap] W fun e w' => e = .returned (.int .i64 c) ∧ Below W.heap.size W w') :
    Calls Tryd.prog 14 #[mv C o K cap] w (MRes 0 0 (fun _ => 0) c w) := by
  have g1 : (c != 0) = true := by rw [bne_iff_ne]; exact h0
  obtain ⟨f1, f2, f3⟩ := w2_facts w C o K cap
  obtain ⟨S, hS⟩ : ∃ n, w.heap.size = n := ⟨_, rfl⟩
  have H := Lib.hid (hck _ f1)
  have HB := Lib.hid f1
  have HR := Lib.hid f3
  unfold mv at H ⊢
  clear hck h0 f1 f2 f3
  go_enter Tryd.func14, Tryd.ntmps14
  go_wp2_with fail
  refine H.out.mono ?_
  rintro e W1 ⟨rfl, hb1⟩
  have hr1 := HR.out.below hb1 HR.out.lt
  rw [hS] at hr1
  have d0 := hr1.cell 0
  have d1 := hr1.cell 1
  have g0 := hr1.open_ 0
  have g2 := hr1.open_ 1
  have hfb := (hr1.set 0 (.int .i64 0)).set 1 (.slice none 0 0)
  have hfw := ((HB.out.trans (Joins.below_le hb1 HB.out.size)).setCell (p := ⟨S + 1, 0, none⟩) (by show w.heap.size ≤ S + 1; omega) (.int .i64 0)).setCell (p := ⟨S + 1, 1, none⟩) (by show w.heap.size ≤ S + 1; omega) (.slice none 0 0)
  have HFB := Lib.hid hfb
  have HFW := Lib.hid hfw
  clear hb1 hr1 hfb hfw
  go_wp2_with fail
  have z0 := HFB.out.cell 0
  have z1 := HFB.out.cell 1
  simp at z0 z1
  refine bodyPost_ret (v := .tuple #[.agg #[.int .i64 0, .slice none 0 0], .int .i64 c]) (by simp [results, Tryd.results14, go_sem, z0, z1]) rfl ⟨_, _, rfl, Mn.nil _ _ _ _, ?_⟩
  first | exact HFW.out | (rw [hS]; have h := HFW.out; rwa [hS] at h)
theorem mul_bad (C D : Int) (K M : Nat) (o p : Option Addr) (cap cap' : Nat) (w : World) (c : Int) (h0 : c ≠ 0) (hck : ∀ W, Below w.heap.size w W → Calls Tryd.prog 51 #[mv C o K cap, mv D p M cap'] W fun e w' => e = .returned (.int .i64 c) ∧ Below W.heap.size W w') :
    Calls Tryd.prog 24 #[mv C o K cap, mv D p M cap'] w (MRes 0 0 (fun _ => 0) c w) := by
  have g1 : (c != 0) = true := by rw [bne_iff_ne]; exact h0
  obtain ⟨f1, f2, f4, f3⟩ := w3_facts w C o K cap D p M cap'
  obtain ⟨S, hS⟩ : ∃ n, w.heap.size = n := ⟨_, rfl⟩
  have H := Lib.hid (hck _ f1)
  have HB := Lib.hid f1
  have HR := Lib.hid f3
  unfold mv at H ⊢
  clear hck h0 f1 f2 f3 f4
  go_enter Tryd.func24, Tryd.ntmps24
  go_wp2_with fail
  refine H.out.mono ?_
  rintro e W1 ⟨rfl, hb1⟩
  have hr1 := HR.out.below hb1 HR.out.lt
  rw [hS] at hr1
  have d0 := hr1.cell 0
  have d1 := hr1.cell 1
  have g0 := hr1.open_ 0
  have g2 := hr1.open_ 1
  have hfb := (hr1.set 0 (.int .i64 0)).set 1 (.slice none 0 0)
  have hfw := ((HB.out.trans (Joins.below_le hb1 HB.out.size)).setCell (p := ⟨S + 1 + 1, 0, none⟩) (by show w.heap.size ≤ S + 1 + 1; omega) (.int .i64 0)).setCell (p := ⟨S + 1 + 1, 1, none⟩) (by show w.heap.size ≤ S + 1 + 1; omega) (.slice none 0 0)
  have HFB := Lib.hid hfb
  have HFW := Lib.hid hfw
  clear hb1 hr1 hfb hfw
  go_wp2_with fail
  have z0 := HFB.out.cell 0
  have z1 := HFB.out.cell 1
  simp at z0 z1
  refine bodyPost_ret (v := .tuple #[.agg #[.int .i64 0, .slice none 0 0], .int .i64 c]) (by simp [results, Tryd.results24, go_sem, z0, z1]) rfl ⟨_, _, rfl, Mn.nil _ _ _ _, ?_⟩
  first | exact HFW.out | (rw [hS]; have h := HFW.out; rwa [hS] at h)

theorem mul_shape (C D : Int) (K M : Nat) (o p : Option Addr) (cap cap' : Nat) (w : World) (h0 : C ≠ (M : Int)) (hM : M ≤ 1000000000) (hck : ∀ W, Below w.heap.size w W → Calls Tryd.prog 51 #[mv C o K cap, mv D p M cap'] W fun e w' => e = .returned (.int .i64 0) ∧ Below W.heap.size W w') :
    Calls Tryd.prog 24 #[mv C o K cap, mv D p M cap'] w (MRes 0 0 (fun _ => 0) 15 w) := by
  have g1 : (C != (M : Int)) = true := by rw [bne_iff_ne]; exact h0
  obtain ⟨f1, f2, f4, f3⟩ := w3_facts w C o K cap D p M cap'
  obtain ⟨S, hS⟩ : ∃ n, w.heap.size = n := ⟨_, rfl⟩
  have H := Lib.hid (hck _ f1)
  have HB := Lib.hid f1
  have HA := Lib.hid f2
  have HC := Lib.hid f4
  have HR := Lib.hid f3
  unfold mv at H ⊢
  clear hck h0 f1 f2 f3 f4
  go_enter Tryd.func24, Tryd.ntmps24
  go_wp2_with fail
  refine H.out.mono ?_
  rintro e W1 ⟨rfl, hb1⟩
  have hr1 := HR.out.below hb1 HR.out.lt
  have ha1 := HA.out.below hb1 HA.out.lt
  have hc1 := HC.out.below hb1 HC.out.lt
  rw [hS] at hr1 ha1 hc1
  have q0 := ha1.cell 0
  have q1 := hc1.cell 1
  have d0 := hr1.cell 0
  have d1 := hr1.cell 1
  have g0 := hr1.open_ 0
  have g2 := hr1.open_ 1
  have hfb := (hr1.set 0 (.int .i64 0)).set 1 (.slice none 0 0)
  have hfw := ((HB.out.trans (Joins.below_le hb1 HB.out.size)).setCell (p := ⟨S + 1 + 1, 0, none⟩) (by show w.heap.size ≤ S + 1 + 1; omega) (.int .i64 0)).setCell (p := ⟨S + 1 + 1, 1, none⟩) (by show w.heap.size ≤ S + 1 + 1; omega) (.slice none 0 0)
  have HFB := Lib.hid hfb
  have HFW := Lib.hid hfw
  clear hb1 hr1 hfb hfw ha1 hc1
  go_wp2_with fail
  have z0 := HFB.out.cell 0
  have z1 := HFB.out.cell 1
  simp at z0 z1
  refine bodyPost_ret (v := .tuple #[.agg #[.int .i64 0, .slice none 0 0], .int .i64 15]) (by simp [results, Tryd.results24, go_sem, z0, z1]) rfl ⟨_, _, rfl, Mn.nil _ _ _ _, ?_⟩
  first | exact HFW.out | (rw [hS]; have h := HFW.out; rwa [hS] at h)

theorem add_bad (C D : Int) (K M : Nat) (o p : Option Addr) (cap cap' : Nat) (w : World) (c : Int) (h0 : c ≠ 0) (hck : ∀ W, Below w.heap.size w W → Calls Tryd.prog 51 #[mv C o K cap, mv D p M cap'] W fun e w' => e = .returned (.int .i64 c) ∧ Below W.heap.size W w') :
    Calls Tryd.prog 22 #[mv C o K cap, mv D p M cap'] w (MRes 0 0 (fun _ => 0) c w) := by
  have g1 : (c != 0) = true := by rw [bne_iff_ne]; exact h0
  obtain ⟨f1, f2, f4, f3⟩ := w3_facts w C o K cap D p M cap'
  obtain ⟨S, hS⟩ : ∃ n, w.heap.size = n := ⟨_, rfl⟩
  have H := Lib.hid (hck _ f1)
  have HB := Lib.hid f1
  have HR := Lib.hid f3
  unfold mv at H ⊢
  clear hck h0 f1 f2 f3 f4
  go_enter Tryd.func22, Tryd.ntmps22
  go_wp2_with fail
  refine H.out.mono ?_
  rintro e W1 ⟨rfl, hb1⟩
  have hr1 := HR.out.below hb1 HR.out.lt
  rw [hS] at hr1
  have d0 := hr1.cell 0
  have d1 := hr1.cell 1
  have g0 := hr1.open_ 0
  have g2 := hr1.open_ 1
  have hfb := (hr1.set 0 (.int .i64 0)).set 1 (.slice none 0 0)
  have hfw := ((HB.out.trans (Joins.below_le hb1 HB.out.size)).setCell (p := ⟨S + 1 + 1, 0, none⟩) (by show w.heap.size ≤ S + 1 + 1; omega) (.int .i64 0)).setCell (p := ⟨S + 1 + 1, 1, none⟩) (by show w.heap.size ≤ S + 1 + 1; omega) (.slice none 0 0)
  have HFB := Lib.hid hfb
  have HFW := Lib.hid hfw
  clear hb1 hr1 hfb hfw
  go_wp2_with fail
  have z0 := HFB.out.cell 0
  have z1 := HFB.out.cell 1
  simp at z0 z1
  refine bodyPost_ret (v := .tuple #[.agg #[.int .i64 0, .slice none 0 0], .int .i64 c]) (by simp [results, Tryd.results22, go_sem, z0, z1]) rfl ⟨_, _, rfl, Mn.nil _ _ _ _, ?_⟩
  first | exact HFW.out | (rw [hS]; have h := HFW.out; rwa [hS] at h)

theorem add_shape (C D : Int) (K M : Nat) (o p : Option Addr) (cap cap' : Nat) (w : World) (h0 : C ≠ D ∨ K ≠ M) (hK : K ≤ 1000000000) (hM : M ≤ 1000000000) (hck : ∀ W, Below w.heap.size w W → Calls Tryd.prog 51 #[mv C o K cap, mv D p M cap'] W fun e w' => e = .returned (.int .i64 0) ∧ Below W.heap.size W w') :
    Calls Tryd.prog 22 #[mv C o K cap, mv D p M cap'] w (MRes 0 0 (fun _ => 0) 15 w) := by
  have key : ∀ q : Bool, (C != D) = q → (q = true ∨ ((K : Int) != (M : Int)) = true) → Calls Tryd.prog 22 #[mv C o K cap, mv D p M cap'] w (MRes 0 0 (fun _ => 0) 15 w) := by
    intro q hq hq2
    obtain ⟨f1, f2, f4, f3⟩ := w3_facts w C o K cap D p M cap'
    obtain ⟨S, hS⟩ : ∃ n, w.heap.size = n := ⟨_, rfl⟩
    have H := Lib.hid (hck _ f1)
    have HB := Lib.hid f1
    have HA := Lib.hid f2
    have HC := Lib.hid f4
    have HR := Lib.hid f3
    have Hq2 := Lib.hid hq2
    unfold mv at H ⊢
    clear hck h0 f1 f2 f3 f4 hq2
    cases q
    · have g5 : ((K : Int) != (M : Int)) = true := by
        rcases Hq2.out with h | h
        · exact absurd h (by simp)
        · exact h
      clear Hq2
      go_enter Tryd.func22, Tryd.ntmps22
      go_wp2_with fail
      refine H.out.mono ?_
      rintro e W1 ⟨rfl, hb1⟩
      have hr1 := HR.out.below hb1 HR.out.lt
      have ha1 := HA.out.below hb1 HA.out.lt
      have hc1 := HC.out.below hb1 HC.out.lt
      rw [hS] at hr1 ha1 hc1
      have q0 := ha1.cell 0
      have q1 := ha1.cell 1
      have q2 := hc1.cell 0
      have q3 := hc1.cell 1
      have d0 := hr1.cell 0
      have d1 := hr1.cell 1
      have g0 := hr1.open_ 0
      have g2 := hr1.open_ 1
      have hfb := (hr1.set 0 (.int .i64 0)).set 1 (.slice none 0 0)
      have hfw := ((HB.out.trans (Joins.below_le hb1 HB.out.size)).setCell (p := ⟨S + 1 + 1, 0, none⟩) (by show w.heap.size ≤ S + 1 + 1; omega) (.int .i64 0)).setCell (p := ⟨S + 1 + 1, 1, none⟩) (by show w.heap.size ≤ S + 1 + 1; omega) (.slice none 0 0)
      have HFB := Lib.hid hfb
      have HFW := Lib.hid hfw
      clear hb1 hr1 hfb hfw ha1 hc1
      go_wp2_with fail
      have z0 := HFB.out.cell 0
      have z1 := HFB.out.cell 1
      simp at z0 z1
      refine bodyPost_ret (v := .tuple #[.agg #[.int .i64 0, .slice none 0 0], .int .i64 15]) (by simp [results, Tryd.results22, go_sem, z0, z1]) rfl ⟨_, _, rfl, Mn.nil _ _ _ _, ?_⟩
      first | exact HFW.out | (rw [hS]; have h := HFW.out; rwa [hS] at h)

    · clear Hq2
      go_enter Tryd.func22, Tryd.ntmps22
      go_wp2_with fail
      refine H.out.mono ?_
      rintro e W1 ⟨rfl, hb1⟩
      have hr1 := HR.out.below hb1 HR.out.lt
      have ha1 := HA.out.below hb1 HA.out.lt
      have hc1 := HC.out.below hb1 HC.out.lt
      rw [hS] at hr1 ha1 hc1
      have q0 := ha1.cell 0
      have q2 := hc1.cell 0
      have d0 := hr1.cell 0
      have d1 := hr1.cell 1
      have g0 := hr1.open_ 0
      have g2 := hr1.open_ 1
      have hfb := (hr1.set 0 (.int .i64 0)).set 1 (.slice none 0 0)
      have hfw := ((HB.out.trans (Joins.below_le hb1 HB.out.size)).setCell (p := ⟨S + 1 + 1, 0, none⟩) (by show w.heap.size ≤ S + 1 + 1; omega) (.int .i64 0)).setCell (p := ⟨S + 1 + 1, 1, none⟩) (by show w.heap.size ≤ S + 1 + 1; omega) (.slice none 0 0)
      have HFB := Lib.hid hfb
      have HFW := Lib.hid hfw
      clear hb1 hr1 hfb hfw ha1 hc1
      go_wp2_with fail
      have z0 := HFB.out.cell 0
      have z1 := HFB.out.cell 1
      simp at z0 z1
      refine bodyPost_ret (v := .tuple #[.agg #[.int .i64 0, .slice none 0 0], .int .i64 15]) (by simp [results, Tryd.results22, go_sem, z0, z1]) rfl ⟨_, _, rfl, Mn.nil _ _ _ _, ?_⟩
      first | exact HFW.out | (rw [hS]; have h := HFW.out; rwa [hS] at h)

  refine key _ rfl ?_
  rcases h0 with h | h
  · left; rw [bne_iff_ne]; exact h
  · right; rw [bne_iff_ne]; omega

end Go.Proofs.YtbefkngeffpokaaDoor
