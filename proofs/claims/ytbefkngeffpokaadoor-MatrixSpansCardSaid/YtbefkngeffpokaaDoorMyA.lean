/- Echelon and Kernel where the matrix is not well-formed. -/
import Derived.Test.YtbefkngeffpokaaDoorMxJ
import Derived.Test.YtbefkngeffpokaaDoorMxQ
import Derived.WalkKit
import Derived.WalkSpells
import Derived.WalkLawsBesides
import Derived.Handy
import Derived.Deep.QuietTactic
import Derived.BigQuiet
import Derived.Outline
import Derived.Laws.BitsAllLaws
import Derived.IntWalk
import Derived.Lib.SmallJoins
import Derived.Lib.Hide
import Derived.Deep.DeepCutAuto
import Derived.LoopTactic
import Derived.Deep.RegionWith
import Derived.Laws.CopyOwn
import Derived.Maps.OwnOps
import Derived.Maps.OwnSet
import Derived.Laws.OwnMore
import Derived.Maps.AppendAt
import Derived.RangeFuncNested
import Derived.RangeFuncBound
import Derived.RangeFuncCalls
import Derived.RangeFuncLeaves
import Derived.RangeFuncBox
import Derived.RangeFuncFrom
import Derived.Shelf.Abstract
import Derived.Shelf.RegionOpen
import Derived.OwnWalkIn
import Derived.TacticsInMore
import Derived.LoopNIn
import Derived.LoopIn
import Derived.Deep.RegionHeld3
import Derived.RegionTactic
import Derived.ChangeAlike
namespace Go.Proofs.YtbefkngeffpokaaDoor
set_option linter.unusedVariables false
set_option linter.unusedSimpArgs false
open Go.RowKit

theorem rech_bad (C : Int) (K : Nat) (o : Option Addr) (cap : Nat) (w : World) (c : Int) (h0 : c ≠ 0) (hck : ∀ W, Below w.heap.size w W → Calls Tryd.prog 19 #[mv C o K cap] W fun e w' => e = .returned (.int .i64 c) ∧ Below W.heap.size W w') :
    Calls Tryd.prog 27 #[mv C o K cap] w (MRes 0 0 (fun _ => 0) c w) := by
  have g1 : (c != 0) = true := by rw [bne_iff_ne]; exact h0
  obtain ⟨f1, f2, f3⟩ := w2_facts w C o K cap
  obtain ⟨S, hS⟩ : ∃ n, w.heap.size = n := ⟨_, rfl⟩
  have H := Lib.hid (hck _ f1)
  have HB := Lib.hid f1
  have HR := Lib.hid f3
  unfold mv at H ⊢
  clear hck h0 f1 f2 f3
  go_enter Tryd.func27, Tryd.ntmps27
  go_wp2_with fail
  refine H.out.mono ?_
  rintro e W1 ⟨rfl, hb1⟩
  have hr1 := HR.out.below hb1 HR.out.lt
  rw [hS] at hr1
  have d0 := hr1.cell 0
  have d1 := hr1.cell 1
  have g0 := hr1.open_ 0
  have g2 := hr1.open_ 1
  have hfb := (hr1.set 0 (.int .i64 0)).set 1 (.slice none 0 0)
  have hfw := ((HB.out.trans (Joins.below_le hb1 HB.out.size)).setCell (p := ⟨S + 1, 0, none⟩) (by show w.heap.size ≤ S + 1; omega) (.int .i64 0)).setCell (p := ⟨S + 1, 1, none⟩) (by show w.heap.size ≤ S + 1; omega) (.slice none 0 0)
  have HFB := Lib.hid hfb
  have HFW := Lib.hid hfw
  clear hb1 hr1 hfb hfw
  go_wp2_with fail
  have z0 := HFB.out.cell 0
  have z1 := HFB.out.cell 1
  simp at z0 z1
  refine bodyPost_ret (v := .tuple #[.agg #[.int .i64 0, .slice none 0 0], .int .i64 c]) (by simp [results, Tryd.results27, go_sem, z0, z1]) rfl ⟨_, _, rfl, Mn.nil _ _ _ _, ?_⟩
  first | exact HFW.out | (rw [hS]; have h := HFW.out; rwa [hS] at h)
theorem rker_bad (C : Int) (K : Nat) (o : Option Addr) (cap : Nat) (w : World) (c : Int) (h0 : c ≠ 0) (hck : ∀ W, Below w.heap.size w W → Calls Tryd.prog 19 #[mv C o K cap] W fun e w' => e = .returned (.int .i64 c) ∧ Below W.heap.size W w') :
    Calls Tryd.prog 31 #[mv C o K cap] w (MRes 0 0 (fun _ => 0) c w) := by
  have g1 : (c != 0) = true := by rw [bne_iff_ne]; exact h0
  obtain ⟨f1, f2, f3⟩ := w2_facts w C o K cap
  obtain ⟨S, hS⟩ : ∃ n, w.heap.size = n := ⟨_, rfl⟩
  have H := Lib.hid (hck _ f1)
  have HB := Lib.hid f1
  have HR := Lib.hid f3
  unfold mv at H ⊢
  clear hck h0 f1 f2 f3
  go_enter Tryd.func31, Tryd.ntmps31
  go_wp2_with fail
  refine H.out.mono ?_
  rintro e W1 ⟨rfl, hb1⟩
  have hr1 := HR.out.below hb1 HR.out.lt
  rw [hS] at hr1
  have d0 := hr1.cell 0
  have d1 := hr1.cell 1
  have g0 := hr1.open_ 0
  have g2 := hr1.open_ 1
  have hfb := (hr1.set 0 (.int .i64 0)).set 1 (.slice none 0 0)
  have hfw := ((HB.out.trans (Joins.below_le hb1 HB.out.size)).setCell (p := ⟨S + 1, 0, none⟩) (by show w.heap.size ≤ S + 1; omega) (.int .i64 0)).setCell (p := ⟨S + 1, 1, none⟩) (by show w.heap.size ≤ S + 1; omega) (.slice none 0 0)
  have HFB := Lib.hid hfb
  have HFW := Lib.hid hfw
  clear hb1 hr1 hfb hfw
  go_wp2_with fail
  have z0 := HFB.out.cell 0
  have z1 := HFB.out.cell 1
  simp at z0 z1
  refine bodyPost_ret (v := .tuple #[.agg #[.int .i64 0, .slice none 0 0], .int .i64 c]) (by simp [results, Tryd.results31, go_sem, z0, z1]) rfl ⟨_, _, rfl, Mn.nil _ _ _ _, ?_⟩
  first | exact HFW.out | (rw [hS]; have h := HFW.out; rwa [hS] at h)
theorem ech_bad (C : Int) (K : Nat) (o : Option Addr) (cap : Nat) (w : World) (c : Int) (h0 : c ≠ 0) (hck : ∀ W, Below w.heap.size w W → Calls Tryd.prog 18 #[mv C o K cap] W fun e w' => e = .returned (.int .i64 c) ∧ Below W.heap.size W w') :
    Calls Tryd.prog 26 #[mv C o K cap] w (MRes 0 0 (fun _ => 0) c w) := by
  have g1 : (c != 0) = true := by rw [bne_iff_ne]; exact h0
  obtain ⟨f1, f2, f3⟩ := w2_facts w C o K cap
  obtain ⟨S, hS⟩ : ∃ n, w.heap.size = n := ⟨_, rfl⟩
  have H := Lib.hid (hck _ f1)
  have HB := Lib.hid f1
  have HR := Lib.hid f3
  unfold mv at H ⊢
  clear hck h0 f1 f2 f3
  go_enter Tryd.func26, Tryd.ntmps26
  go_wp2_with fail
  refine H.out.mono ?_
  rintro e W1 ⟨rfl, hb1⟩
  have hr1 := HR.out.below hb1 HR.out.lt
  rw [hS] at hr1
  have d0 := hr1.cell 0
  have d1 := hr1.cell 1
  have g0 := hr1.open_ 0
  have g2 := hr1.open_ 1
  have hfb := (hr1.set 0 (.int .i64 0)).set 1 (.slice none 0 0)
  have hfw := ((HB.out.trans (Joins.below_le hb1 HB.out.size)).setCell (p := ⟨S + 1, 0, none⟩) (by show w.heap.size ≤ S + 1; omega) (.int .i64 0)).setCell (p := ⟨S + 1, 1, none⟩) (by show w.heap.size ≤ S + 1; omega) (.slice none 0 0)
  have HFB := Lib.hid hfb
  have HFW := Lib.hid hfw
  clear hb1 hr1 hfb hfw
  go_wp2_with fail
  have z0 := HFB.out.cell 0
  have z1 := HFB.out.cell 1
  simp at z0 z1
  refine bodyPost_ret (v := .tuple #[.agg #[.int .i64 0, .slice none 0 0], .int .i64 c]) (by simp [results, Tryd.results26, go_sem, z0, z1]) rfl ⟨_, _, rfl, Mn.nil _ _ _ _, ?_⟩
  first | exact HFW.out | (rw [hS]; have h := HFW.out; rwa [hS] at h)

end Go.Proofs.YtbefkngeffpokaaDoor
namespace Go.Proofs.YtbefkngeffpokaaDoor
set_option linter.unusedVariables false
set_option linter.unusedSimpArgs false
open Go.RowKit

theorem rrank_bad (C : Int) (K : Nat) (o : Option Addr) (cap : Nat) (w : World) (c : Int) (h0 : c ≠ 0) (hck : ∀ W, Below w.heap.size w W → Calls Tryd.prog 19 #[mv C o K cap] W fun e w' => e = .returned (.int .i64 c) ∧ Below W.heap.size W w') :
    Calls Tryd.prog 29 #[mv C o K cap] w fun e w' => e = .returned (.tuple #[.int .i64 0, .int .i64 c]) ∧ Below w.heap.size w w' := by
  have hb0 := mbel w C o K cap
  have H := Lib.hid (hck _ hb0)
  have HB := Lib.hid hb0
  have HBx := Lib.hid (mbox w C o K cap)
  have g1 : (c != 0) = true := by rw [bne_iff_ne]; exact h0
  unfold mv at H ⊢
  clear hck h0 hb0
  go_enter Tryd.func29, Tryd.ntmps29
  go_wp2_with fail
  refine H.out.mono ?_
  rintro e W1 ⟨rfl, hb1⟩
  have HB1 := Lib.hid (HB.out.trans (Joins.below_le hb1 HB.out.size))
  clear hb1
  go_wp2_with fail
  go_ret2
  exact ⟨rfl, HB1.out⟩
theorem rank_bad (C : Int) (K : Nat) (o : Option Addr) (cap : Nat) (w : World) (c : Int) (h0 : c ≠ 0) (hck : ∀ W, Below w.heap.size w W → Calls Tryd.prog 18 #[mv C o K cap] W fun e w' => e = .returned (.int .i64 c) ∧ Below W.heap.size W w') :
    Calls Tryd.prog 28 #[mv C o K cap] w fun e w' => e = .returned (.tuple #[.int .i64 0, .int .i64 c]) ∧ Below w.heap.size w w' := by
  have hb0 := mbel w C o K cap
  have H := Lib.hid (hck _ hb0)
  have HB := Lib.hid hb0
  have HBx := Lib.hid (mbox w C o K cap)
  have g1 : (c != 0) = true := by rw [bne_iff_ne]; exact h0
  unfold mv at H ⊢
  clear hck h0 hb0
  go_enter Tryd.func28, Tryd.ntmps28
  go_wp2_with fail
  refine H.out.mono ?_
  rintro e W1 ⟨rfl, hb1⟩
  have HB1 := Lib.hid (HB.out.trans (Joins.below_le hb1 HB.out.size))
  clear hb1
  go_wp2_with fail
  go_ret2
  exact ⟨rfl, HB1.out⟩

end Go.Proofs.YtbefkngeffpokaaDoor
namespace Go.Proofs.YtbefkngeffpokaaDoor
set_option linter.unusedVariables false
set_option linter.unusedSimpArgs false
open Go.RowKit

set_option maxHeartbeats 2000000 in
theorem ker_bad (C : Int) (K : Nat) (o : Option Addr) (cap : Nat) (w : World) (c : Int) (h0 : c ≠ 0) (hck : ∀ W, Below w.heap.size w W → Calls Tryd.prog 18 #[mv C o K cap] W fun e w' => e = .returned (.int .i64 c) ∧ Below W.heap.size W w') :
    Calls Tryd.prog 30 #[mv C o K cap] w (MRes 0 0 (fun _ => 0) c w) := by
  have H := Lib.hid (fun W (h : Below w.heap.size w W) => ech_bad C K o cap W c h0 (fun V hV => hck V (h.trans (hV.mono h.size))))
  have g1 : (c != 0) = true := by rw [bne_iff_ne]; exact h0
  obtain ⟨f1, f2, f3⟩ := w2_facts w C o K cap
  have HB := Lib.hid f1
  have HR := Lib.hid f3
  clear f1 f2 f3
  obtain ⟨S, hS⟩ : ∃ n, w.heap.size = n := ⟨_, rfl⟩
  unfold mv at H ⊢
  clear hck h0
  go_enter Tryd.func30, Tryd.ntmps30
  go_wp2_with fail
  refine (H.out _ HB.out).mono ?_
  rintro e W1 ⟨o', c', rfl, _, hb1⟩
  have hr1 := HR.out.below hb1 HR.out.lt
  rw [hS] at hr1
  have d0 := hr1.cell 0
  have d1 := hr1.cell 1
  have g0 := hr1.open_ 0
  have g2 := hr1.open_ 1
  have d2 : ∀ ob, (W1.alloc ob).cell? ⟨S + 1, 0, none⟩ = some (.int .i64 0) := fun ob => (hr1.alloc ob).cell 0
  have d3 : ∀ ob, (W1.alloc ob).cell? ⟨S + 1, 1, none⟩ = some (.slice none 0 0) := fun ob => (hr1.alloc ob).cell 1
  have g3 : ∀ ob, (W1.alloc ob).frozen? ⟨S + 1, 0, none⟩ = false := fun ob => (hr1.alloc ob).open_ 0
  have g4 : ∀ ob, (W1.alloc ob).frozen? ⟨S + 1, 1, none⟩ = false := fun ob => (hr1.alloc ob).open_ 1
  have HR1 := Lib.hid hr1
  have HB1 := Lib.hid (HB.out.trans (Joins.below_le hb1 HB.out.size))
  clear hb1 hr1
  unfold mv
  go_wp2_with fail
  have hfb := ((HR1.out.alloc (.cells #[.int .i64 0, .slice o' 0 c'] 24)).set 0 (.int .i64 0)).set 1 (.slice none 0 0)
  have z0 := hfb.cell 0
  have z1 := hfb.cell 1
  simp at z0 z1
  refine bodyPost_ret (v := .tuple #[.agg #[.int .i64 0, .slice none 0 0], .int .i64 c]) (by simp [results, Tryd.results30, go_sem, z0, z1]) rfl ⟨_, _, rfl, Mn.nil _ _ _ _, ?_⟩
  exact ((HB1.out.alloc HB1.out.size _).setCell (p := ⟨S + 1, 0, none⟩) (by show w.heap.size ≤ S + 1; omega) _).setCell (p := ⟨S + 1, 1, none⟩) (by show w.heap.size ≤ S + 1; omega) _

end Go.Proofs.YtbefkngeffpokaaDoor
