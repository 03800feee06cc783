/- Package partition and its specification: the error of a list and of a pair; Of, meet, Meet, Refine. -/
import Derived.Test.YtokjdlljhloflaaPtD
import Derived.WalkKit
import Derived.WalkSpells
import Derived.WalkLawsBesides
import Derived.Handy
import Derived.Deep.QuietTactic
import Derived.BigQuiet
import Derived.Outline
import Derived.Laws.BitsAllLaws
import Derived.IntWalk
import Derived.Lib.SmallJoins
import Derived.Lib.Hide
import Derived.Deep.DeepCutAuto
import Derived.LoopTactic
import Derived.Deep.RegionWith
namespace Go.Proofs.Ytokjdlljhloflaa
set_option linter.unusedVariables false
set_option linter.unusedSimpArgs false
open Go.RowKit Part

/-- The first n integers of f. -/
def lsf (n : Nat) (f : Nat → Int) : List Int := (List.range n).map f
/-- The error of a list of labels. -/
def pcd (n : Nat) (f : Nat → Int) : Int := if 65536 < n then 5 else chk 0 (lsf n f)
/-- The error of two lists of labels. -/
def pcd2 (n : Nat) (f : Nat → Int) (m : Nat) (g : Nat → Int) : Int := if pcd n f ≠ 0 then pcd n f else if pcd m g ≠ 0 then pcd m g else if n ≠ m then 15 else 0
def nat (f : Nat → Int) : Nat → Nat := fun i => (f i).toNat
theorem lsf_drop (n : Nat) (f : Nat → Int) {i : Nat} (h : i < n) : (lsf n f).drop i = f i :: (lsf n f).drop (i + 1) := by
  have hl : i < (lsf n f).length := by simp [lsf]; exact h
  rw [List.drop_eq_getElem_cons hl]
  congr 1
  simp [lsf]
theorem chk_from (n : Nat) (f : Nat → Int) : ∀ k i, i + k = n → (chk (cnt (nat f) i) ((lsf n f).drop i) = 0 ↔ ∀ j, i ≤ j → j < n → 0 ≤ f j ∧ nat f j ≤ cnt (nat f) j)
  | 0, i, h => by
    rw [List.drop_eq_nil_of_le (by simp [lsf]; omega)]
    exact ⟨fun _ j h1 h2 => by omega, fun _ => rfl⟩
  | k + 1, i, h => by
    have ih := chk_from n f k (i + 1) (by omega)
    rw [lsf_drop n f (by omega)]
    unfold chk
    have split : (∀ j, i ≤ j → j < n → 0 ≤ f j ∧ nat f j ≤ cnt (nat f) j) ↔ (0 ≤ f i ∧ nat f i ≤ cnt (nat f) i) ∧ ∀ j, i + 1 ≤ j → j < n → 0 ≤ f j ∧ nat f j ≤ cnt (nat f) j := by
      refine ⟨fun H => ⟨H i (by omega) (by omega), fun j h1 h2 => H j (by omega) h2⟩, fun H j h1 h2 => ?_⟩
      by_cases e : j = i
      · subst e; exact H.1
      · exact H.2 j (by omega) h2
    rw [split, ← ih]
    have hn : nat f i = (f i).toNat := rfl
    have hc : cnt (nat f) (i + 1) = if nat f i = cnt (nat f) i then cnt (nat f) i + 1 else cnt (nat f) i := rfl
    by_cases h1 : f i < 0
    · rw [if_pos h1]
      exact ⟨fun h => by omega, fun h => by omega⟩
    · rw [if_neg h1]
      by_cases h2 : ((cnt (nat f) i : Nat) : Int) < f i
      · rw [if_pos h2]
        exact ⟨fun h => by omega, fun h => by omega⟩
      · rw [if_neg h2]
        by_cases h3 : f i = ((cnt (nat f) i : Nat) : Int)
        · rw [if_pos h3, hc, if_pos (by rw [hn]; omega)]
          exact ⟨fun h => ⟨⟨by omega, by omega⟩, h⟩, fun h => h.2⟩
        · rw [if_neg h3, hc, if_neg (by rw [hn]; omega)]
          exact ⟨fun h => ⟨⟨by omega, by omega⟩, h⟩, fun h => h.2⟩
theorem chk_zero (n : Nat) (f : Nat → Int) : chk 0 (lsf n f) = 0 ↔ (∀ i, i < n → 0 ≤ f i) ∧ Wf n (nat f) := by
  have h := chk_from n f n 0 (by omega)
  have e : cnt (nat f) 0 = 0 := rfl
  rw [e, List.drop_zero] at h
  rw [h]
  exact ⟨fun H => ⟨fun i hi => (H i (by omega) hi).1, fun i hi => (H i (by omega) hi).2⟩, fun H j _ hj => ⟨H.1 j hj, H.2 j hj⟩⟩
/-- A well-formed partition of n elements. -/
def Good (n : Nat) (f : Nat → Int) : Prop := n ≤ 65536 ∧ (∀ i, i < n → 0 ≤ f i) ∧ Wf n (nat f)
theorem pcd_zero (n : Nat) (f : Nat → Int) : pcd n f = 0 ↔ Good n f := by
  unfold pcd Good
  by_cases h : 65536 < n
  · rw [if_pos h]
    exact ⟨fun h => by omega, fun h => by omega⟩
  · rw [if_neg h, chk_zero]
    exact ⟨fun h2 => ⟨by omega, h2⟩, fun h2 => h2.2⟩
theorem pcd2_zero (n : Nat) (f : Nat → Int) (m : Nat) (g : Nat → Int) : pcd2 n f m g = 0 ↔ Good n f ∧ Good m g ∧ n = m := by
  unfold pcd2
  rw [← pcd_zero, ← pcd_zero]
  by_cases h1 : pcd n f = 0
  · rw [if_neg (by simp [h1])]
    by_cases h2 : pcd m g = 0
    · rw [if_neg (by simp [h2])]
      by_cases h3 : n = m
      · rw [if_neg (by simp [h3])]; exact ⟨fun _ => ⟨h1, h2, h3⟩, fun _ => rfl⟩
      · rw [if_pos h3]; exact ⟨fun h => by omega, fun h => absurd h.2.2 h3⟩
    · rw [if_pos h2]; exact ⟨fun h => absurd h h2, fun h => absurd h.2.1 h2⟩
  · rw [if_pos h1]; exact ⟨fun h => absurd h h1, fun h => absurd h.1 h1⟩
theorem Good.wf64 {n : Nat} {f : Nat → Int} (h : Good n f) : ∀ i, i < n → In64 (f i) := fun i hi => by
  have h1 := h.2.1 i hi
  have h2 := h.2.2 i hi
  have h3 : ∀ k, cnt (nat f) k ≤ k := by
    intro k
    induction k with
    | zero => exact Nat.le_refl _
    | succ k ih =>
      show (if nat f k = cnt (nat f) k then cnt (nat f) k + 1 else cnt (nat f) k) ≤ k + 1
      split <;> omega
  have h4 := h3 i
  have h5 : nat f i = (f i).toNat := rfl
  have := h.1
  unfold In64
  omega

theorem check_any (n : Nat) (f : Nat → Int) (o : Option Addr) (cap : Nat) (w : World) (h : Lz w o n f) : Calls Try.prog 32 #[.slice o n cap] w fun e w' => e = .returned (.int .i64 (pcd n f)) ∧ w = w' := by
  unfold pcd
  by_cases hm : 65536 < n
  · rw [if_pos hm]
    exact ptchk_many o n cap hm w
  · rw [if_neg hm]
    by_cases h0 : n = 0
    · subst h0
      exact ptchk_empty o cap w
    · obtain ⟨b, off, rfl, hb, hc⟩ := h (by omega)
      have hl : (lsf n f).length = n := by simp [lsf]
      have hA : Arz w b off (lsf n f) := fun i hi => by
        have e : (lsf n f)[i] = f i := by simp [lsf]
        rw [e]
        exact hc i (by omega)
      have := ptchk_list (lsf n f) (by omega) b off cap w hA
      rw [hl] at this
      exact this

theorem rcheck_any (n : Nat) (f : Nat → Int) (o : Option Addr) (cap : Nat) (w : World) (h : Lz w o n f) : Calls Try.prog 5 #[.slice o n cap] w fun e w' => e = .returned (.int .i64 (pcd n f)) ∧ w = w' := by
  unfold pcd
  by_cases hm : 65536 < n
  · rw [if_pos hm]
    exact rptchk_many o n cap hm w
  · rw [if_neg hm]
    by_cases h0 : n = 0
    · subst h0
      exact rptchk_empty o cap w
    · obtain ⟨b, off, rfl, hb, hc⟩ := h (by omega)
      have hl : (lsf n f).length = n := by simp [lsf]
      have hA : Arz w b off (lsf n f) := fun i hi => by
        have e : (lsf n f)[i] = f i := by simp [lsf]
        rw [e]
        exact hc i (by omega)
      have := rptchk_list (lsf n f) (by omega) b off cap w hA
      rw [hl] at this
      exact this

theorem pair_any (n m : Nat) (f g : Nat → Int) (o p : Option Addr) (cap cap' : Nat) (w : World) (h : Lz w o n f) (h' : Lz w p m g) : Calls Try.prog 19 #[.slice o n cap, .slice p m cap'] w fun e w' => e = .returned (.int .i64 (pcd2 n f m g)) ∧ w = w' := by
  have H1 := Lib.hid (fun w h => check_any n f o cap w h)
  have H2 := Lib.hid (fun w h => check_any m g p cap' w h)
  have HL := Lib.hid h
  have HL' := Lib.hid h'
  obtain ⟨r, hr⟩ : ∃ r, pcd2 n f m g = r := ⟨_, rfl⟩
  rw [hr]
  unfold pcd2 at hr
  obtain ⟨r1, hr1⟩ : ∃ r1, pcd n f = r1 := ⟨_, rfl⟩
  obtain ⟨r2, hr2⟩ : ∃ r2, pcd m g = r2 := ⟨_, rfl⟩
  rw [hr1, hr2] at hr
  rw [hr1] at H1
  rw [hr2] at H2
  clear hr1 hr2 h h'
  by_cases h1 : r1 = 0
  · rw [if_neg (by simp [h1])] at hr
    subst h1
    by_cases h2 : r2 = 0
    · rw [if_neg (by simp [h2])] at hr
      subst h2
      by_cases h3 : n = m
      · rw [if_neg (by simp [h3])] at hr
        subst h3
        subst hr
        go_enter Try.func19, Try.ntmps19
        go_wp2_with fail
        refine (H1.out _ HL.out).mono ?_
        rintro e w' ⟨rfl, rfl⟩
        go_wp2_with fail
        refine (H2.out _ HL'.out).mono ?_
        rintro e w' ⟨rfl, rfl⟩
        go_wp2_with fail
        go_ret
        exact ⟨rfl, rfl⟩
      · rw [if_pos h3] at hr
        subst hr
        have h3' : (n == m) = false := by simpa using h3
        have h4 : ((n : Int) != (m : Int)) = true := by rw [bne_iff_ne]; omega
        go_enter Try.func19, Try.ntmps19
        go_wp2_with fail
        refine (H1.out _ HL.out).mono ?_
        rintro e w' ⟨rfl, rfl⟩
        go_wp2_with fail
        refine (H2.out _ HL'.out).mono ?_
        rintro e w' ⟨rfl, rfl⟩
        go_wp2_with fail
        go_ret
        exact ⟨rfl, rfl⟩
    · rw [if_pos h2] at hr
      subst hr
      have h2' : (r2 != 0) = true := by rw [bne_iff_ne]; exact h2
      go_enter Try.func19, Try.ntmps19
      go_wp2_with fail
      refine (H1.out _ HL.out).mono ?_
      rintro e w' ⟨rfl, rfl⟩
      go_wp2_with fail
      refine (H2.out _ HL'.out).mono ?_
      rintro e w' ⟨rfl, rfl⟩
      go_wp2_with fail
      go_ret
      exact ⟨rfl, rfl⟩
  · rw [if_pos h1] at hr
    subst hr
    have h1' : (r1 != 0) = true := by rw [bne_iff_ne]; exact h1
    go_enter Try.func19, Try.ntmps19
    go_wp2_with fail
    refine (H1.out _ HL.out).mono ?_
    rintro e w' ⟨rfl, rfl⟩
    go_wp2_with fail
    go_ret
    exact ⟨rfl, rfl⟩

end Go.Proofs.Ytokjdlljhloflaa
