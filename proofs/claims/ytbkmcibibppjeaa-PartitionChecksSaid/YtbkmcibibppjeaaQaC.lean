/- Pairs of package and specification that answer alike. -/
import Derived.Test.YtbkmcibibppjeaaQaB
import Derived.WalkKit
import Derived.WalkSpells
import Derived.WalkLawsBesides
import Derived.Handy
import Derived.Deep.QuietTactic
import Derived.BigQuiet
import Derived.Outline
import Derived.Laws.BitsAllLaws
import Derived.IntWalk
import Derived.Lib.SmallJoins
import Derived.Lib.Hide
import Derived.Deep.DeepCutAuto
import Derived.LoopTactic
import Derived.Deep.RegionWith
namespace Go.Proofs.Ytbkmcibibppjeaa
set_option linter.unusedVariables false
set_option linter.unusedSimpArgs false
open Go.RowKit Part

theorem allb_one (p : Nat → Bool) : allb 1 p = p 0 := by
  unfold allb
  cases h : p 0 with
  | true => exact decide_eq_true fun c hc => by obtain rfl : c = 0 := by omega
                                                exact h
  | false => exact decide_eq_false fun H => by have := H 0 (by omega); rw [h] at this; cases this
theorem allb_succ (k : Nat) (p : Nat → Bool) : allb (k + 1) p = (allb k p && p k) := by
  unfold allb
  cases h : p k with
  | true =>
    rw [Bool.and_true]
    congr 1
    apply propext
    refine ⟨fun H c hc => H c (by omega), fun H c hc => ?_⟩
    by_cases e : c = k
    · subst e; exact h
    · exact H c (by omega)
  | false =>
    rw [Bool.and_false]
    exact decide_eq_false fun H => by have := H k (by omega); rw [h] at this; cases this

theorem still {f : Nat} {a : Array Value} {v : Value} {w : World} (h : Calls Try.prog f a w fun e w' => e = .returned v ∧ w = w') : Calls Try.prog f a w fun e w' => e = .returned v ∧ Below w.heap.size w w' := by
  refine h.mono ?_
  rintro e w' ⟨rfl, rfl⟩
  exact ⟨rfl, Below.refl _ _⟩
theorem classes_two (n : Nat) (f : Nat → Int) : ∃ (k : Nat) (L : Nat → List Int) (c : Int), k ≤ 65536 ∧ (∀ j, j < k → (L j).length ≤ 1000000) ∧ (∀ o cap W, Lz W o n f → Calls Try.prog 13 #[.slice o n cap] W (CRes k L c W)) ∧ ∀ o cap W, Lz W o n f → Calls Try.prog 14 #[.slice o n cap] W (CRes k L c W) := by
  by_cases h : pcd n f = 0
  · have hg := (pcd_zero n f).1 h
    refine ⟨cnt (nat f) n, memb (nat f) n, 0, ?_, ?_, fun o cap W hL => classes_good n f hg o cap W hL, fun o cap W hL => rclasses_good n f hg o cap W hL⟩
    · have h1 := cnt_small (nat f) n
      have h2 := hg.1
      omega
    · intro j _
      have h1 := memb_len (nat f) n j
      have h2 := hg.1
      omega
  · exact ⟨0, fun _ => [], pcd n f, by decide, fun j hj => absurd hj (Nat.not_lt_zero _), fun o cap W hL => classes_bad n f _ rfl h o cap W hL, fun o cap W hL => rclasses_bad n f _ rfl h o cap W hL⟩
theorem count_two (n : Nat) (f : Nat → Int) : ∃ a c : Int, (∀ o cap W, Lz W o n f → Calls Try.prog 15 #[.slice o n cap] W fun e w' => e = .returned (.tuple #[.int .i64 a, .int .i64 c]) ∧ W = w') ∧ ∀ o cap W, Lz W o n f → Calls Try.prog 16 #[.slice o n cap] W fun e w' => e = .returned (.tuple #[.int .i64 a, .int .i64 c]) ∧ W = w' := by
  by_cases h : pcd n f = 0
  · have hg := (pcd_zero n f).1 h
    exact ⟨_, _, fun o cap W hL => cc_good n f hg o cap W hL, fun o cap W hL => rcc_good n f hg o cap W hL⟩
  · exact ⟨_, _, fun o cap W hL => cc_bad n f _ rfl h o cap W hL, fun o cap W hL => rcc_bad n f _ rfl h o cap W hL⟩
theorem of_two (n : Nat) (f : Nat → Int) (hf : n ≤ 65536 → ∀ i, i < n → In64 (f i)) : ∃ (k : Nat) (g : Nat → Int) (c : Int), k ≤ 65536 ∧ (∀ o cap W, Lz W o n f → Calls Try.prog 20 #[.slice o n cap] W (PRes k g c W)) ∧ ∀ o cap W, Lz W o n f → Calls Try.prog 21 #[.slice o n cap] W (PRes k g c W) := by
  by_cases h : n ≤ 65536
  · exact ⟨n, labf f, 0, h, fun o cap W hL => of_okn n h f (hf h) o cap W hL, fun o cap W hL => rof_okn n h f o cap W hL⟩
  · exact ⟨0, _, 5, by decide, fun o cap W hL => of_many n (by omega) o cap W, fun o cap W hL => rof_many n (by omega) o cap W⟩
theorem same_two (n : Nat) (f : Nat → Int) (x y : Int) : ∃ (a : Bool) (c : Int), (∀ o cap W, Lz W o n f → Calls Try.prog 22 #[.slice o n cap, .int .i64 x, .int .i64 y] W fun e w' => e = .returned (.tuple #[.bool a, .int .i64 c]) ∧ Below W.heap.size W w') ∧ ∀ o cap W, Lz W o n f → Calls Try.prog 23 #[.slice o n cap, .int .i64 x, .int .i64 y] W fun e w' => e = .returned (.tuple #[.bool a, .int .i64 c]) ∧ Below W.heap.size W w' := by
  by_cases h : pcd n f = 0
  · have hg := (pcd_zero n f).1 h
    by_cases hx : x < 0 ∨ (n : Int) ≤ x ∨ y < 0 ∨ (n : Int) ≤ y
    · exact ⟨_, _, fun o cap W hL => still (sm_out n f hg x y hx o cap W hL), fun o cap W hL => still (rsm_out n f hg x y hx o cap W hL)⟩
    · obtain ⟨x, rfl⟩ := Int.eq_ofNat_of_zero_le (show 0 ≤ x by omega)
      obtain ⟨y, rfl⟩ := Int.eq_ofNat_of_zero_le (show 0 ≤ y by omega)
      exact ⟨_, _, fun o cap W hL => sm_in n f hg x y (by omega) (by omega) o cap W hL, fun o cap W hL => rsm_in n f hg x y (by omega) (by omega) o cap W hL⟩
  · exact ⟨_, _, fun o cap W hL => still (sm_bad n f _ rfl h x y o cap W hL), fun o cap W hL => still (rsm_bad n f _ rfl h x y o cap W hL)⟩
theorem finer_two (n m : Nat) (f g : Nat → Int) : ∃ (a : Bool) (c : Int), (∀ o p cap cap' W, Lz W o n f → Lz W p m g → Calls Try.prog 25 #[.slice o n cap, .slice p m cap'] W fun e w' => e = .returned (.tuple #[.bool a, .int .i64 c]) ∧ Below W.heap.size W w') ∧ ∀ o p cap cap' W, Lz W o n f → Lz W p m g → Calls Try.prog 26 #[.slice o n cap, .slice p m cap'] W fun e w' => e = .returned (.tuple #[.bool a, .int .i64 c]) ∧ Below W.heap.size W w' := by
  by_cases h : pcd2 n f m g = 0
  · obtain ⟨h1, h2, rfl⟩ := (pcd2_zero n f m g).1 h
    exact ⟨_, _, fun o p cap cap' W hL hL' => fin_good n f g h1 h2 o p cap cap' W hL hL', fun o p cap cap' W hL hL' => rfin_good n f g h1 h2 o p cap cap' W hL hL'⟩
  · exact ⟨_, _, fun o p cap cap' W hL hL' => still (fin_bad n m f g _ rfl h o p cap cap' W hL hL'), fun o p cap cap' W hL hL' => still (rfin_bad n m f g _ rfl h o p cap cap' W hL hL')⟩
theorem meet_two (n m : Nat) (f g : Nat → Int) : ∃ (k : Nat) (h : Nat → Int) (c : Int), k ≤ 65536 ∧ (∀ o p cap cap' W, Lz W o n f → Lz W p m g → Calls Try.prog 27 #[.slice o n cap, .slice p m cap'] W (PRes k h c W)) ∧ ∀ o p cap cap' W, Lz W o n f → Lz W p m g → Calls Try.prog 28 #[.slice o n cap, .slice p m cap'] W (PRes k h c W) := by
  by_cases h : pcd2 n f m g = 0
  · obtain ⟨h1, h2, rfl⟩ := (pcd2_zero n f m g).1 h
    exact ⟨n, _, 0, h1.1, fun o p cap cap' W hL hL' => meet_good n f g h1 h2 o p cap cap' W hL hL', fun o p cap cap' W hL hL' => rmeet_good n f g h1 h2 o p cap cap' W hL hL'⟩
  · exact ⟨0, _, _, by decide, fun o p cap cap' W hL hL' => meet_bad n m f g _ rfl h o p cap cap' W hL hL', fun o p cap cap' W hL hL' => rmeet_bad n m f g _ rfl h o p cap cap' W hL hL'⟩
/-- The join of two vectors. -/
noncomputable def joinf (n : Nat) (a b : Nat → Nat) : Nat → Nat := Classical.epsilon (IsJoin n a b)
theorem jres_to {n : Nat} {a b : Nat → Nat} {w : World} {e : Ending} {w' : World} (h : JRes n a b w e w') : PRes n (zf (joinf n a b)) 0 w e w' := by
  obtain ⟨m, hm, hp⟩ := h
  have hj : IsJoin n a b (joinf n a b) := Classical.epsilon_spec ⟨m, hm⟩
  exact pres_to hp fun i hi => by show ((m i : Nat) : Int) = _; rw [join_unique hm hj i hi]; rfl
theorem join_two (n m : Nat) (f g : Nat → Int) : ∃ (k : Nat) (h : Nat → Int) (c : Int), k ≤ 65536 ∧ (∀ o p cap cap' W, Lz W o n f → Lz W p m g → Calls Try.prog 29 #[.slice o n cap, .slice p m cap'] W (PRes k h c W)) ∧ ∀ o p cap cap' W, Lz W o n f → Lz W p m g → Calls Try.prog 30 #[.slice o n cap, .slice p m cap'] W (PRes k h c W) := by
  by_cases h : pcd2 n f m g = 0
  · obtain ⟨h1, h2, rfl⟩ := (pcd2_zero n f m g).1 h
    exact ⟨n, _, 0, h1.1, fun o p cap cap' W hL hL' => (join_good n f g h1 h2 o p cap cap' W hL hL').mono fun _ _ => jres_to, fun o p cap cap' W hL hL' => (rjoin_good n f g h1 h2 o p cap cap' W hL hL').mono fun _ _ => jres_to⟩
  · exact ⟨0, _, _, by decide, fun o p cap cap' W hL hL' => join_bad n m f g _ rfl h o p cap cap' W hL hL', fun o p cap cap' W hL hL' => rjoin_bad n m f g _ rfl h o p cap cap' W hL hL'⟩
theorem refine_two (n m : Nat) (f g : Nat → Int) (hg : m ≤ 65536 → ∀ i, i < m → In64 (g i)) : ∃ (k : Nat) (h : Nat → Int) (c : Int), k ≤ 65536 ∧ (∀ o p cap cap' W, Lz W o n f → Lz W p m g → Calls Try.prog 31 #[.slice o n cap, .slice p m cap'] W (PRes k h c W)) ∧ ∀ o p cap cap' W, Lz W o n f → Lz W p m g → Calls Try.prog 32 #[.slice o n cap, .slice p m cap'] W (PRes k h c W) := by
  by_cases h : pcd n f = 0
  · have h1 := (pcd_zero n f).1 h
    by_cases hnm : m = n
    · subst hnm
      exact ⟨m, _, 0, h1.1, fun o p cap cap' W hL hL' => refine_good m f g h1 (hg h1.1) o p cap cap' W hL hL', fun o p cap cap' W hL hL' => rrefine_good m f g h1 o p cap cap' W hL hL'⟩
    · exact ⟨0, _, 15, by decide, fun o p cap cap' W hL hL' => refine_shape n m f g h1 hnm o p cap cap' W hL, fun o p cap cap' W hL hL' => rrefine_shape n m f g h1 hnm o p cap cap' W hL⟩
  · exact ⟨0, _, _, by decide, fun o p cap cap' W hL hL' => refine_bad n m f g _ rfl h o p cap cap' W hL, fun o p cap cap' W hL hL' => rrefine_bad n m f g _ rfl h o p cap cap' W hL⟩
end Go.Proofs.Ytbkmcibibppjeaa
