/- The specification's Transpose and Multiply. -/
import Derived.Test.YtbefkngeffpokaaDoorMxM
import Derived.WalkKit
import Derived.WalkSpells
import Derived.WalkLawsBesides
import Derived.Handy
import Derived.Deep.QuietTactic
import Derived.BigQuiet
import Derived.Outline
import Derived.Laws.BitsAllLaws
import Derived.IntWalk
import Derived.Lib.SmallJoins
import Derived.Lib.Hide
import Derived.Deep.DeepCutAuto
import Derived.LoopTactic
import Derived.Deep.RegionWith
import Derived.Laws.CopyOwn
import Derived.Maps.OwnOps
import Derived.Maps.OwnSet
import Derived.Laws.OwnMore
import Derived.Maps.AppendAt
import Derived.RangeFuncNested
import Derived.RangeFuncBound
import Derived.RangeFuncCalls
import Derived.RangeFuncLeaves
import Derived.RangeFuncBox
import Derived.RangeFuncFrom
import Derived.Shelf.Abstract
import Derived.Shelf.RegionOpen
import Derived.OwnWalkIn
import Derived.TacticsInMore
import Derived.LoopNIn
import Derived.LoopIn
import Derived.Deep.RegionHeld3
import Derived.RegionTactic
import Derived.ChangeAlike
import Derived.Deep.RegionLaw
import Derived.Deep.AppendLies
namespace Go.Proofs.YtbefkngeffpokaaDoor
set_option linter.unusedVariables false
set_option linter.unusedSimpArgs false
open Go.RowKit

/-- A matrix and an error come back. -/
def MRes (N K : Nat) (r : Nat → Nat) (c : Int) (w : World) (e : Ending) (w' : World) : Prop := ∃ o cap, e = .returned (.tuple #[mv (N : Int) o K cap, .int .i64 c]) ∧ Mn w.heap.size w' o K cap N r ∧ Below w.heap.size w w'
theorem w2_facts (w : World) (C : Int) (o : Option Addr) (K cap : Nat) : Below w.heap.size w ((w.alloc (.cells #[.int .i64 C, .slice o K cap] 24)).alloc (.cells #[.int .i64 0, .slice none 0 0] 24)) ∧ Box ((w.alloc (.cells #[.int .i64 C, .slice o K cap] 24)).alloc (.cells #[.int .i64 0, .slice none 0 0] 24)) w.heap.size #[.int .i64 C, .slice o K cap] 24 ∧ Box ((w.alloc (.cells #[.int .i64 C, .slice o K cap] 24)).alloc (.cells #[.int .i64 0, .slice none 0 0] 24)) (w.heap.size + 1) #[.int .i64 0, .slice none 0 0] 24 :=
  ⟨((Below.refl _ _).alloc (Nat.le_refl _) _).alloc (by simp) _, (Box.new w _ _).alloc _, by have h := Box.new (w.alloc (.cells #[.int .i64 C, .slice o K cap] 24)) #[.int .i64 0, .slice none 0 0] 24; rwa [World.size_alloc] at h⟩
theorem rtrans_bad (C : Int) (K : Nat) (o : Option Addr) (cap : Nat) (w : World) (c : Int) (h0 : c ≠ 0) (hck : ∀ W, Below w.heap.size w W → Calls Tryd.prog 19 #[mv C o K cap] W fun e w' => e = .returned (.int .i64 c) ∧ Below W.heap.size W w') :
    Calls Tryd.prog 15 #[mv C o K cap] w (MRes 0 0 (fun _ => 0) c w) := by
  have g1 : (c != 0) = true := by rw [bne_iff_ne]; exact h0
  obtain ⟨f1, f2, f3⟩ := w2_facts w C o K cap
  obtain ⟨S, hS⟩ : ∃ n, w.heap.size = n := ⟨_, rfl⟩
  have H := Lib.hid (hck _ f1)
  have HB := Lib.hid f1
  have HR := Lib.hid f3
  unfold mv at H ⊢
  clear hck h0 f1 f2 f3
  go_enter Tryd.func15, Tryd.ntmps15
  go_wp2_with fail
  refine H.out.mono ?_
  rintro e W1 ⟨rfl, hb1⟩
  have hr1 := HR.out.below hb1 HR.out.lt
  rw [hS] at hr1
  have d0 := hr1.cell 0
  have d1 := hr1.cell 1
  have g0 := hr1.open_ 0
  have g2 := hr1.open_ 1
  have hfb := (hr1.set 0 (.int .i64 0)).set 1 (.slice none 0 0)
  have hfw := ((HB.out.trans (Joins.below_le hb1 HB.out.size)).setCell (p := ⟨S + 1, 0, none⟩) (by show w.heap.size ≤ S + 1; omega) (.int .i64 0)).setCell (p := ⟨S + 1, 1, none⟩) (by show w.heap.size ≤ S + 1; omega) (.slice none 0 0)
  have HFB := Lib.hid hfb
  have HFW := Lib.hid hfw
  clear hb1 hr1 hfb hfw
  go_wp2_with fail
  have z0 := HFB.out.cell 0
  have z1 := HFB.out.cell 1
  simp at z0 z1
  refine bodyPost_ret (v := .tuple #[.agg #[.int .i64 0, .slice none 0 0], .int .i64 c]) (by simp [results, Tryd.results15, go_sem, z0, z1]) rfl ⟨_, _, rfl, Mn.nil _ _ _ _, ?_⟩
  first | exact HFW.out | (rw [hS]; have h := HFW.out; rwa [hS] at h)
theorem rtrans_good (C K : Nat) (hC : C ≤ 31) (hK : K ≤ 31) (r : Nat → Nat) (o : Option Addr) (cap : Nat) (w : World) (hM : Mx w o K C r) :
    Calls Tryd.prog 15 #[mv (C : Int) o K cap] w (MRes K C (trr K r) 0 w) := by
  obtain ⟨f1, f2, f3⟩ := w2_facts w (C : Int) o K cap
  obtain ⟨S, hS⟩ : ∃ n, w.heap.size = n := ⟨_, rfl⟩
  have H := Lib.hid (rcheck_mx C K (by omega) (by omega) r o cap _ (hM.below f1))
  have HT := Lib.hid (fun W (h : Below w.heap.size w W) => turned_ok C K hC hK r o cap W (hM.below h))
  have HB := Lib.hid f1
  have HA := Lib.hid f2
  have HR := Lib.hid f3
  unfold mv at H HT ⊢
  clear hM f1 f2 f3
  go_enter Tryd.func15, Tryd.ntmps15
  go_wp2_with fail
  refine H.out.mono ?_
  rintro e W1 ⟨rfl, hb1⟩
  have hr1 := HR.out.below hb1 HR.out.lt
  have ha1 := HA.out.below hb1 HA.out.lt
  rw [hS] at hr1 ha1
  have q0 := ha1.cell 0
  have q1 := ha1.cell 1
  have HB1 := Lib.hid (HB.out.trans (Joins.below_le hb1 HB.out.size))
  have HR1 := Lib.hid hr1
  clear hb1 hr1 ha1
  go_wp2_with fail
  refine (HT.out _ HB1.out).mono ?_
  rintro e W2 ⟨o', c', rfl, hmx, hb2⟩
  have hr2 := (HR1.out.below hb2 (by have := HR1.out.lt; omega))
  have d0 := hr2.cell 0
  have d1 := hr2.cell 1
  have g0 := hr2.open_ 0
  have g2 := hr2.open_ 1
  have hsl : S + 1 < W1.heap.size := HR1.out.lt
  have hfb := (hr2.set 0 (.int .i64 (K : Int))).set 1 (.slice o' C c')
  have hfw := (((HB1.out.trans (Joins.below_le hb2 HB1.out.size))).setCell (p := ⟨S + 1, 0, none⟩) (by show w.heap.size ≤ S + 1; omega) (.int .i64 (K : Int))).setCell (p := ⟨S + 1, 1, none⟩) (by show w.heap.size ≤ S + 1; omega) (.slice o' C c')
  have hfm := ((hmx.set (b := S + 1) (i := 0) hsl (.int .i64 (K : Int))).set (b := S + 1) (i := 1) hsl (.slice o' C c')).le HB1.out.size
  have HFB := Lib.hid hfb
  have HFW := Lib.hid hfw
  have HFM := Lib.hid hfm
  clear hb2 hr2 hfb hfw hfm hmx hsl
  go_wp2_with fail
  have z0 := HFB.out.cell 0
  have z1 := HFB.out.cell 1
  simp at z0 z1
  refine bodyPost_ret (v := .tuple #[.agg #[.int .i64 (K : Int), .slice o' C c'], .int .i64 0]) (by simp [results, Tryd.results15, go_sem, z0, z1]) rfl ⟨_, _, rfl, HFM.out, HFW.out⟩

end Go.Proofs.YtbefkngeffpokaaDoor
