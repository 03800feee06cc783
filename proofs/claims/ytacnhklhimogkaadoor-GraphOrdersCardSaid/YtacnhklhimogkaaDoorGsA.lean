/- The specification's check of two graphs: 0 exactly if both are well-formed and have the same number of processes. -/
import Derived.Test.YtacnhklhimogkaaDoorGrB
import Derived.Test.YtacnhklhimogkaaDoorGrC
import Derived.Test.YtacnhklhimogkaaDoorGrD
import Derived.Test.YtacnhklhimogkaaDoorGrE
import Derived.Test.YtacnhklhimogkaaDoorGrK
import Derived.Test.YtacnhklhimogkaaDoorGrM
import Derived.Test.YtacnhklhimogkaaDoorT
import Derived.WalkKit
import Derived.WalkSpells
import Derived.WalkLawsBesides
import Derived.Handy
import Derived.Deep.QuietTactic
import Derived.BigQuiet
import Derived.Outline
import Derived.Laws.BitsAllLaws
import Derived.IntWalk
import Derived.Lib.SmallJoins
import Derived.Lib.Hide
namespace Go.Proofs.YtacnhklhimogkaaDoor
set_option linter.unusedVariables false
set_option linter.unusedSimpArgs false
open Go.RowKit

/-- The numbers of a graph lie in the range of Go's int. -/
def Rng (x : Nat → Int) : Prop := ∀ p, p < 5 → -9223372036854775808 ≤ x p ∧ x p ≤ 9223372036854775807

abbrev iv (n : Int) (x : Nat → Int) : Value := .agg #[.int .i64 n, .int .i64 (x 0), .int .i64 (x 1), .int .i64 (x 2), .int .i64 (x 3), .int .i64 (x 4)]
abbrev icells (n : Int) (x : Nat → Int) : Array Value := #[.int .i64 n, .int .i64 (x 0), .int .i64 (x 1), .int .i64 (x 2), .int .i64 (x 3), .int .i64 (x 4)]

theorem rcheck_yes (n : Int) (x : Nat → Int) (hb : Rng x) (h : WFI n x) (w : World) :
    Calls Tryd.prog 13 #[iv n x] w fun e w' => e = .returned (.int .i64 0) ∧ Below w.heap.size w w' :=
  (rcheck_any n x w hb).mono fun e w' ⟨r, he, hr, _, _, hB⟩ => ⟨by rw [he, hr.2 h], hB⟩

/-- Where it is not well-formed: one of two numbers. -/
theorem rcheck_no (n : Int) (x : Nat → Int) (hb : Rng x) (h : ¬ WFI n x) (w : World) :
    Calls Tryd.prog 13 #[iv n x] w fun e w' => (e = .returned (.int .i64 2) ∨ e = .returned (.int .i64 3)) ∧ Below w.heap.size w w' := by
  refine (rcheck_any n x w hb).mono fun e w' ⟨r, he, _, h2, h3, hB⟩ => ⟨?_, hB⟩
  by_cases ho : Out n x
  · left; rw [he, h2 ho]
  · right; rw [he, h3 h ho]

def BothOk (na nb : Int) (a b : Nat → Int) : Prop := (WFI na a ∧ WFI nb b) ∧ na = nb

set_option maxHeartbeats 1000000 in
theorem both_yes (n : Int) (a b : Nat → Int) (ra : Rng a) (rb : Rng b) (ha : WFI n a) (hb : WFI n b) (w : World) :
    Calls Tryd.prog 49 #[iv n a, iv n b] w fun e w' => e = .returned (.int .i64 0) ∧ Below w.heap.size w w' := by
  have Ha := Lib.hid ha
  have Hb := Lib.hid hb
  have Ra := Lib.hid ra
  have Rb := Lib.hid rb
  clear ha hb ra rb
  go_enter Tryd.func49, Tryd.ntmps49
  go_wp2_with fail
  refine (rcheck_yes n a Ra.out Ha.out _).mono ?_
  rintro e w1 ⟨rfl, hb1⟩
  obtain ⟨hc, hf⟩ := bcell hb1
  have hz : w.heap.size + 1 < w1.heap.size := by have := hb1.size; simp at this; omega
  have hz0 : w.heap.size < w1.heap.size := by omega
  go_wp2_with fail
  refine (rcheck_yes n b Rb.out Hb.out _).mono ?_
  rintro e w2 ⟨rfl, hb2⟩
  obtain ⟨hc2, hf2⟩ := bcell hb2
  go_wp2_with fail
  go_ret
  exact ⟨rfl, (((Below.refl _ _).alloc (Nat.le_refl _) _).alloc (by simp) _).trans ((Joins.below_le hb1 (by simp; omega)).trans (Joins.below_le hb2 (by omega)))⟩

set_option maxHeartbeats 2000000 in
theorem both_no (na nb : Int) (a b : Nat → Int) (ra : Rng a) (rb : Rng b) (h : ¬ BothOk na nb a b) (w : World) :
    Calls Tryd.prog 49 #[iv na a, iv nb b] w fun e w' => (e = .returned (.int .i64 2) ∨ e = .returned (.int .i64 3) ∨ e = .returned (.int .i64 22)) ∧ Below w.heap.size w w' := by
  have Ra := Lib.hid ra
  have Rb := Lib.hid rb
  clear ra rb
  by_cases ha : WFI na a
  · have Ha := Lib.hid ha
    by_cases hb : WFI nb b
    · have Hb := Lib.hid hb
      have hne : na ≠ nb := fun hh => h ⟨⟨ha, hb⟩, hh⟩
      have hne' : (na != nb) = true := by simpa using hne
      clear ha hb h
      go_enter Tryd.func49, Tryd.ntmps49
      go_wp2_with fail
      refine (rcheck_yes na a Ra.out Ha.out _).mono ?_
      rintro e w1 ⟨rfl, hb1⟩
      obtain ⟨hc, hf⟩ := bcell hb1
      have hz : w.heap.size + 1 < w1.heap.size := by have := hb1.size; simp at this; omega
      have hz0 : w.heap.size < w1.heap.size := by omega
      go_wp2_with fail
      refine (rcheck_yes nb b Rb.out Hb.out _).mono ?_
      rintro e w2 ⟨rfl, hb2⟩
      obtain ⟨hc2, hf2⟩ := bcell hb2
      go_wp2_with fail
      go_ret
      exact ⟨.inr (.inr rfl), (((Below.refl _ _).alloc (Nat.le_refl _) _).alloc (by simp) _).trans ((Joins.below_le hb1 (by simp; omega)).trans (Joins.below_le hb2 (by omega)))⟩
    · have Hb := Lib.hid hb
      clear ha hb h
      go_enter Tryd.func49, Tryd.ntmps49
      go_wp2_with fail
      refine (rcheck_yes na a Ra.out Ha.out _).mono ?_
      rintro e w1 ⟨rfl, hb1⟩
      obtain ⟨hc, hf⟩ := bcell hb1
      have hz : w.heap.size + 1 < w1.heap.size := by have := hb1.size; simp at this; omega
      have hz0 : w.heap.size < w1.heap.size := by omega
      go_wp2_with fail
      refine (rcheck_no nb b Rb.out Hb.out _).mono ?_
      rintro e w2 ⟨rfl | rfl, hb2⟩
      · obtain ⟨hc2, hf2⟩ := bcell hb2
        go_wp2_with fail
        go_ret
        exact ⟨.inl rfl, (((Below.refl _ _).alloc (Nat.le_refl _) _).alloc (by simp) _).trans ((Joins.below_le hb1 (by simp; omega)).trans (Joins.below_le hb2 (by omega)))⟩
      · obtain ⟨hc2, hf2⟩ := bcell hb2
        go_wp2_with fail
        go_ret
        exact ⟨.inr (.inl rfl), (((Below.refl _ _).alloc (Nat.le_refl _) _).alloc (by simp) _).trans ((Joins.below_le hb1 (by simp; omega)).trans (Joins.below_le hb2 (by omega)))⟩
  · have Ha := Lib.hid ha
    clear ha h
    go_enter Tryd.func49, Tryd.ntmps49
    go_wp2_with fail
    refine (rcheck_no na a Ra.out Ha.out _).mono ?_
    rintro e w1 ⟨rfl | rfl, hb1⟩
    · go_wp2_with fail
      go_ret
      exact ⟨.inl rfl, (((Below.refl _ _).alloc (Nat.le_refl _) _).alloc (by simp) _).trans (Joins.below_le hb1 (by simp; omega))⟩
    · go_wp2_with fail
      go_ret
      exact ⟨.inr (.inl rfl), (((Below.refl _ _).alloc (Nat.le_refl _) _).alloc (by simp) _).trans (Joins.below_le hb1 (by simp; omega))⟩
end Go.Proofs.YtacnhklhimogkaaDoor
