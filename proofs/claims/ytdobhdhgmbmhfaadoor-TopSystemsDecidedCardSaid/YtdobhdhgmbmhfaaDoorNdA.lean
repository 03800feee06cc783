/- What both sides return, law by law: Add, Multiply. -/
import Derived.Test.YtdobhdhgmbmhfaaDoorMyW
import Derived.Test.YtdobhdhgmbmhfaaDoorNcB
import Derived.WalkKit
import Derived.WalkSpells
import Derived.WalkLawsBesides
import Derived.Handy
import Derived.Deep.QuietTactic
import Derived.BigQuiet
import Derived.Outline
import Derived.Laws.BitsAllLaws
import Derived.IntWalk
import Derived.Lib.SmallJoins
import Derived.Lib.Hide
import Derived.Deep.DeepCutAuto
import Derived.LoopTactic
import Derived.Deep.RegionWith
import Derived.Laws.CopyOwn
import Derived.Maps.OwnOps
import Derived.Maps.OwnSet
import Derived.Laws.OwnMore
import Derived.Maps.AppendAt
import Derived.RangeFuncNested
import Derived.RangeFuncBound
import Derived.RangeFuncCalls
import Derived.RangeFuncLeaves
import Derived.RangeFuncBox
import Derived.RangeFuncFrom
import Derived.Shelf.Abstract
import Derived.Shelf.RegionOpen
import Derived.OwnWalkIn
import Derived.TacticsInMore
import Derived.LoopNIn
import Derived.LoopIn
import Derived.Deep.RegionHeld3
import Derived.RegionTactic
import Derived.ChangeAlike
namespace Go.Proofs.YtdobhdhgmbmhfaaDoor
set_option linter.unusedVariables false
set_option linter.unusedSimpArgs false
open Go.RowKit

theorem cpair_of (C D : Int) (K M : Nat) (o p : Option Addr) (cap cap' : Nat) (r1 r2 : Int) (w : World) (h1 : ∀ W, Below w.heap.size w W → Calls Tryd.prog 20 #[mv C o K cap] W fun e w' => e = .returned (.int .i64 r1) ∧ Below W.heap.size W w') (h2 : ∀ W, Below w.heap.size w W → Calls Tryd.prog 20 #[mv D p M cap'] W fun e w' => e = .returned (.int .i64 r2) ∧ Below W.heap.size W w') :
    Calls Tryd.prog 30 #[mv C o K cap, mv D p M cap'] w fun e w' => e = .returned (.int .i64 (two r1 r2)) ∧ Below w.heap.size w w' := by
  have hb0 : Below w.heap.size w ((w.alloc (.cells #[.int .i64 C, .slice o K cap] 24)).alloc (.cells #[.int .i64 D, .slice p M cap'] 24)) := ((Below.refl _ _).alloc (Nat.le_refl _) _).alloc (by simp) _
  have HB := Lib.hid hb0
  have H1 := Lib.hid (h1 _ hb0)
  have H2 := Lib.hid h2
  have e1 : ((w.alloc (.cells #[.int .i64 C, .slice o K cap] 24)).alloc (.cells #[.int .i64 D, .slice p M cap'] 24)).heap.size = w.heap.size + 2 := by simp
  have hd : Box ((w.alloc (.cells #[.int .i64 C, .slice o K cap] 24)).alloc (.cells #[.int .i64 D, .slice p M cap'] 24)) (w.heap.size + 1) #[.int .i64 D, .slice p M cap'] 24 := by
    have := Box.new (w.alloc (.cells #[.int .i64 C, .slice o K cap] 24)) #[.int .i64 D, .slice p M cap'] 24
    rwa [World.size_alloc] at this
  have HD := Lib.hid hd
  have HE := Lib.hid e1
  unfold two mv
  unfold mv at H1 H2
  clear h1 h2 hb0 hd e1
  by_cases h0 : r1 = 0
  · rw [if_neg (by simp [h0])]
    subst h0
    go_enter Tryd.func30, Tryd.ntmps30
    go_wp2_with fail
    refine H1.out.mono ?_
    rintro e W1 ⟨rfl, hb1⟩
    have hd1 := HD.out.below hb1 (by rw [HE.out]; omega)
    have q0 := hd1.cell 0
    have q1 := hd1.cell 1
    have HB1 := Lib.hid (HB.out.trans (Joins.below_le hb1 HB.out.size))
    clear hb1 hd1
    go_wp2_with fail
    refine (H2.out _ HB1.out).mono ?_
    rintro e W2 ⟨rfl, hb2⟩
    have HB2 := Lib.hid (HB1.out.trans (Joins.below_le hb2 HB1.out.size))
    clear hb2
    go_wp2_with fail
    go_ret
    exact ⟨rfl, HB2.out⟩
  · rw [if_pos h0]
    have g1 : (r1 != 0) = true := by rw [bne_iff_ne]; exact h0
    clear h0
    go_enter Tryd.func30, Tryd.ntmps30
    go_wp2_with fail
    refine H1.out.mono ?_
    rintro e W1 ⟨rfl, hb1⟩
    have HB1 := Lib.hid (HB.out.trans (Joins.below_le hb1 HB.out.size))
    clear hb1
    go_wp2_with fail
    go_ret
    exact ⟨rfl, HB1.out⟩
/-- What the two checks say of two matrices that are few. -/
theorem Mst.code {C : Int} {K : Nat} {o : Option Addr} {cap : Nat} {w : World} (h : Mst w C o K cap) : ∃ c : Int, (∀ W, Below w.heap.size w W → (Calls Tryd.prog 20 #[mv C o K cap] W fun e w' => e = .returned (.int .i64 c) ∧ Below W.heap.size W w') ∧ (Calls Tryd.prog 19 #[mv C o K cap] W fun e w' => e = .returned (.int .i64 c) ∧ Below W.heap.size W w')) ∧
    (c = 0 → ∃ (N : Nat) (r : Nat → Nat), C = (N : Int) ∧ N ≤ 14 ∧ K ≤ 14 ∧ (∀ c, c < K → r c < 2 ^ N) ∧ Mx w o K N r) := by
  rcases h with ⟨c, h0, h1⟩ | ⟨N, r, rfl, hN, hK, hr, hmx⟩
  · exact ⟨c, h1, fun e => absurd e h0⟩
  · exact ⟨0, fun W hW => ⟨check_mx N K (by omega) (by omega) r o cap W (hmx.below hW), rcheck_mx N K (by omega) (by omega) r o cap W (hmx.below hW)⟩, fun _ => ⟨N, r, rfl, hN, hK, hr, hmx⟩⟩
theorem pair_mx (N P K M : Nat) (hN : N ≤ 31) (hP : P ≤ 31) (hK : K ≤ 31) (hM : M ≤ 31) (a b : Nat → Nat) (o p : Option Addr) (cap cap' : Nat) (w : World) (hA : Mx w o K N a) (hB : Mx w p M P b) : ∀ W, Below w.heap.size w W → Calls Tryd.prog 30 #[mv (N : Int) o K cap, mv (P : Int) p M cap'] W fun e w' => e = .returned (.int .i64 0) ∧ Below W.heap.size W w' := fun W hW =>
  cpair_of (N : Int) (P : Int) K M o p cap cap' 0 0 W (fun V hV => check_mx N K (by omega) (by omega) a o cap V (hA.below (hW.trans (hV.mono hW.size)))) fun V hV => check_mx P M (by omega) (by omega) b p cap' V (hB.below (hW.trans (hV.mono hW.size)))
theorem mulr_lt {n D i : Nat} {a b : Nat → Nat} (hb : ∀ j, j < n → b j < 2 ^ D) : mulr n a b i < 2 ^ D := sumr_lt _ _ (Nat.two_pow_pos _) fun j hj => hb j (el_mem.1 hj).1
theorem mul_mx (C D K : Nat) (hC : C ≤ 31) (hD : D ≤ 31) (hK : K ≤ 31) (a b : Nat → Nat) (hb : ∀ i, i < C → b i < 2 ^ D) (o p : Option Addr) (cap cap' : Nat) (w : World) (hT : Tb w) (hM : Mx w o K C a) (hM' : Mx w p C D b) :
    Calls Tryd.prog 16 #[.agg #[.int .i64 (C : Int), .slice o K cap], .agg #[.int .i64 (D : Int), .slice p C cap']] w (MOut D K (mulr C a b) 0 w) :=
  mul_good C D K hC hD hK a b hb o p cap cap' w hT hM hM' (pair_mx C D K C hC hD hK hC a b o p cap cap' w hM hM')
theorem trans_mx (C K : Nat) (hC : C ≤ 31) (hK : K ≤ 31) (r : Nat → Nat) (o : Option Addr) (cap : Nat) (w : World) (hM : Mx w o K C r) :
    Calls Tryd.prog 15 #[.agg #[.int .i64 (C : Int), .slice o K cap]] w (MOut K C (trr K r) 0 w) :=
  trans_good C K hC hK r o cap w hM
end Go.Proofs.YtdobhdhgmbmhfaaDoor
