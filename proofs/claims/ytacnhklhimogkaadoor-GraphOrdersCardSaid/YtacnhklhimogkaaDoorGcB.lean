/- Two graphs of whatever integers: the number of their error, and what the functions on two graphs, or on one, answer where there is an error. -/
import Derived.Test.YtacnhklhimogkaaDoorGsA
import Derived.Test.YtacnhklhimogkaaDoorGcA
import Derived.Test.YtacnhklhimogkaaDoorT
import Derived.Test.YtacnhklhimogkaaDoorGrD
import Derived.WalkKit
import Derived.WalkSpells
import Derived.WalkLawsBesides
import Derived.Handy
import Derived.Deep.QuietTactic
import Derived.BigQuiet
import Derived.Outline
import Derived.Laws.BitsAllLaws
import Derived.IntWalk
import Derived.Lib.SmallJoins
import Derived.Lib.Hide
namespace Go.Proofs.YtacnhklhimogkaaDoor
set_option linter.unusedVariables false
set_option linter.unusedSimpArgs false
open Go.RowKit

noncomputable def gcode2 (na nb : Int) (a b : Nat → Int) : Int := if gcode na a ≠ 0 then gcode na a else if gcode nb b ≠ 0 then gcode nb b else if na ≠ nb then 22 else 0

theorem gcode2_cases (na nb : Int) (a b : Nat → Int) : gcode2 na nb a b = 0 ∨ gcode2 na nb a b = 2 ∨ gcode2 na nb a b = 3 ∨ gcode2 na nb a b = 22 := by
  unfold gcode2
  have h1 := gcode_cases na a
  have h2 := gcode_cases nb b
  by_cases ha : gcode na a ≠ 0
  · rw [if_pos ha]; omega
  · rw [if_neg ha]
    by_cases hb : gcode nb b ≠ 0
    · rw [if_pos hb]; omega
    · rw [if_neg hb]
      by_cases hn : na ≠ nb
      · rw [if_pos hn]; omega
      · rw [if_neg hn]; omega
theorem gcode2_zero {na nb : Int} {a b : Nat → Int} (h : gcode2 na nb a b = 0) : BothOk na nb a b := by
  unfold gcode2 at h
  by_cases ha : gcode na a ≠ 0
  · rw [if_pos ha] at h; exact absurd h ha
  · rw [if_neg ha] at h
    by_cases hb : gcode nb b ≠ 0
    · rw [if_pos hb] at h; exact absurd h hb
    · rw [if_neg hb] at h
      by_cases hn : na ≠ nb
      · rw [if_pos hn] at h; omega
      · exact ⟨⟨gcode_zero (by omega), gcode_zero (by omega)⟩, by omega⟩

set_option maxHeartbeats 1000000 in
theorem pair_code (na nb : Int) (a b : Nat → Int) (ra : Rng a) (rb : Rng b) (w : World) :
    Calls Tryd.prog 47 #[iv na a, iv nb b] w fun e w' => e = .returned (.int .i64 (gcode2 na nb a b)) ∧ Below w.heap.size w w' := by
  have Hca := Lib.hid (fun w => gcheck_code na a ra w)
  have Hcb := Lib.hid (fun w => gcheck_code nb b rb w)
  have hg : gcode2 na nb a b = if gcode na a ≠ 0 then gcode na a else if gcode nb b ≠ 0 then gcode nb b else if na ≠ nb then 22 else 0 := rfl
  have hca := gcode_cases na a
  have hcb := gcode_cases nb b
  obtain ⟨ca, ea⟩ : ∃ c, gcode na a = c := ⟨_, rfl⟩
  obtain ⟨cb, eb⟩ : ∃ c, gcode nb b = c := ⟨_, rfl⟩
  obtain ⟨r, er⟩ : ∃ c, gcode2 na nb a b = c := ⟨_, rfl⟩
  rw [ea] at Hca hg hca
  rw [eb] at Hcb hg hcb
  rw [er] at hg ⊢
  clear ea eb er ra rb
  by_cases h1 : ca = 0
  · subst h1
    by_cases h2 : cb = 0
    · subst h2
      by_cases h3 : na = nb
      · subst h3
        have hr : r = 0 := by simpa using hg
        subst hr
        clear hg hca hcb
        go_enter Tryd.func47, Tryd.ntmps47
        go_wp2_with fail
        refine (Hca.out _).mono ?_
        rintro e w1 ⟨rfl, hb1⟩
        obtain ⟨hc, hf⟩ := bcell hb1
        have hz : w.heap.size + 1 < w1.heap.size := by have := hb1.size; simp at this; omega
        have hz0 : w.heap.size < w1.heap.size := by omega
        go_wp2_with fail
        refine (Hcb.out _).mono ?_
        rintro e w2 ⟨rfl, hb2⟩
        obtain ⟨hc2, hf2⟩ := bcell hb2
        go_wp2_with fail
        go_ret
        exact ⟨rfl, (((Below.refl _ _).alloc (Nat.le_refl _) _).alloc (by simp) _).trans ((Joins.below_le hb1 (by simp; omega)).trans (Joins.below_le hb2 (by omega)))⟩
      · have hr : r = 22 := by simpa [h3] using hg
        have hne' : (na != nb) = true := by simpa using h3
        subst hr
        clear hg hca hcb
        go_enter Tryd.func47, Tryd.ntmps47
        go_wp2_with fail
        refine (Hca.out _).mono ?_
        rintro e w1 ⟨rfl, hb1⟩
        obtain ⟨hc, hf⟩ := bcell hb1
        have hz : w.heap.size + 1 < w1.heap.size := by have := hb1.size; simp at this; omega
        have hz0 : w.heap.size < w1.heap.size := by omega
        go_wp2_with fail
        refine (Hcb.out _).mono ?_
        rintro e w2 ⟨rfl, hb2⟩
        obtain ⟨hc2, hf2⟩ := bcell hb2
        go_wp2_with fail
        go_ret
        exact ⟨rfl, (((Below.refl _ _).alloc (Nat.le_refl _) _).alloc (by simp) _).trans ((Joins.below_le hb1 (by simp; omega)).trans (Joins.below_le hb2 (by omega)))⟩
    · have hr : r = cb := by simpa [h2] using hg
      subst hr
      clear hg hca
      go_enter Tryd.func47, Tryd.ntmps47
      go_wp2_with fail
      refine (Hca.out _).mono ?_
      rintro e w1 ⟨rfl, hb1⟩
      obtain ⟨hc, hf⟩ := bcell hb1
      have hz : w.heap.size + 1 < w1.heap.size := by have := hb1.size; simp at this; omega
      have hz0 : w.heap.size < w1.heap.size := by omega
      go_wp2_with fail
      refine (Hcb.out _).mono ?_
      rintro e w2 ⟨rfl, hb2⟩
      obtain ⟨hc2, hf2⟩ := bcell hb2
      clear Hca Hcb
      rcases hcb with rfl | rfl | rfl
      · exact absurd rfl h2
      all_goals
        go_wp2_with fail
        go_ret
        exact ⟨rfl, (((Below.refl _ _).alloc (Nat.le_refl _) _).alloc (by simp) _).trans ((Joins.below_le hb1 (by simp; omega)).trans (Joins.below_le hb2 (by omega)))⟩
  · have hr : r = ca := by simpa [h1] using hg
    subst hr
    clear hg hcb
    go_enter Tryd.func47, Tryd.ntmps47
    go_wp2_with fail
    refine (Hca.out _).mono ?_
    rintro e w1 ⟨rfl, hb1⟩
    clear Hca Hcb
    rcases hca with rfl | rfl | rfl
    · exact absurd rfl h1
    all_goals
      go_wp2_with fail
      go_ret
      exact ⟨rfl, (((Below.refl _ _).alloc (Nat.le_refl _) _).alloc (by simp) _).trans (Joins.below_le hb1 (by simp; omega))⟩

set_option maxHeartbeats 1000000 in
theorem both_code (na nb : Int) (a b : Nat → Int) (ra : Rng a) (rb : Rng b) (w : World) :
    Calls Tryd.prog 49 #[iv na a, iv nb b] w fun e w' => e = .returned (.int .i64 (gcode2 na nb a b)) ∧ Below w.heap.size w w' := by
  have Hca := Lib.hid (fun w => rcheck_code na a ra w)
  have Hcb := Lib.hid (fun w => rcheck_code nb b rb w)
  have hg : gcode2 na nb a b = if gcode na a ≠ 0 then gcode na a else if gcode nb b ≠ 0 then gcode nb b else if na ≠ nb then 22 else 0 := rfl
  have hca := gcode_cases na a
  have hcb := gcode_cases nb b
  obtain ⟨ca, ea⟩ : ∃ c, gcode na a = c := ⟨_, rfl⟩
  obtain ⟨cb, eb⟩ : ∃ c, gcode nb b = c := ⟨_, rfl⟩
  obtain ⟨r, er⟩ : ∃ c, gcode2 na nb a b = c := ⟨_, rfl⟩
  rw [ea] at Hca hg hca
  rw [eb] at Hcb hg hcb
  rw [er] at hg ⊢
  clear ea eb er ra rb
  by_cases h1 : ca = 0
  · subst h1
    by_cases h2 : cb = 0
    · subst h2
      by_cases h3 : na = nb
      · subst h3
        have hr : r = 0 := by simpa using hg
        subst hr
        clear hg hca hcb
        go_enter Tryd.func49, Tryd.ntmps49
        go_wp2_with fail
        refine (Hca.out _).mono ?_
        rintro e w1 ⟨rfl, hb1⟩
        obtain ⟨hc, hf⟩ := bcell hb1
        have hz : w.heap.size + 1 < w1.heap.size := by have := hb1.size; simp at this; omega
        have hz0 : w.heap.size < w1.heap.size := by omega
        go_wp2_with fail
        refine (Hcb.out _).mono ?_
        rintro e w2 ⟨rfl, hb2⟩
        obtain ⟨hc2, hf2⟩ := bcell hb2
        go_wp2_with fail
        go_ret
        exact ⟨rfl, (((Below.refl _ _).alloc (Nat.le_refl _) _).alloc (by simp) _).trans ((Joins.below_le hb1 (by simp; omega)).trans (Joins.below_le hb2 (by omega)))⟩
      · have hr : r = 22 := by simpa [h3] using hg
        have hne' : (na != nb) = true := by simpa using h3
        subst hr
        clear hg hca hcb
        go_enter Tryd.func49, Tryd.ntmps49
        go_wp2_with fail
        refine (Hca.out _).mono ?_
        rintro e w1 ⟨rfl, hb1⟩
        obtain ⟨hc, hf⟩ := bcell hb1
        have hz : w.heap.size + 1 < w1.heap.size := by have := hb1.size; simp at this; omega
        have hz0 : w.heap.size < w1.heap.size := by omega
        go_wp2_with fail
        refine (Hcb.out _).mono ?_
        rintro e w2 ⟨rfl, hb2⟩
        obtain ⟨hc2, hf2⟩ := bcell hb2
        go_wp2_with fail
        go_ret
        exact ⟨rfl, (((Below.refl _ _).alloc (Nat.le_refl _) _).alloc (by simp) _).trans ((Joins.below_le hb1 (by simp; omega)).trans (Joins.below_le hb2 (by omega)))⟩
    · have hr : r = cb := by simpa [h2] using hg
      subst hr
      clear hg hca
      go_enter Tryd.func49, Tryd.ntmps49
      go_wp2_with fail
      refine (Hca.out _).mono ?_
      rintro e w1 ⟨rfl, hb1⟩
      obtain ⟨hc, hf⟩ := bcell hb1
      have hz : w.heap.size + 1 < w1.heap.size := by have := hb1.size; simp at this; omega
      have hz0 : w.heap.size < w1.heap.size := by omega
      go_wp2_with fail
      refine (Hcb.out _).mono ?_
      rintro e w2 ⟨rfl, hb2⟩
      obtain ⟨hc2, hf2⟩ := bcell hb2
      clear Hca Hcb
      rcases hcb with rfl | rfl | rfl
      · exact absurd rfl h2
      all_goals
        go_wp2_with fail
        go_ret
        exact ⟨rfl, (((Below.refl _ _).alloc (Nat.le_refl _) _).alloc (by simp) _).trans ((Joins.below_le hb1 (by simp; omega)).trans (Joins.below_le hb2 (by omega)))⟩
  · have hr : r = ca := by simpa [h1] using hg
    subst hr
    clear hg hcb
    go_enter Tryd.func49, Tryd.ntmps49
    go_wp2_with fail
    refine (Hca.out _).mono ?_
    rintro e w1 ⟨rfl, hb1⟩
    clear Hca Hcb
    rcases hca with rfl | rfl | rfl
    · exact absurd rfl h1
    all_goals
      go_wp2_with fail
      go_ret
      exact ⟨rfl, (((Below.refl _ _).alloc (Nat.le_refl _) _).alloc (by simp) _).trans (Joins.below_le hb1 (by simp; omega))⟩

abbrev zg : Value := .agg #[.int .i64 0, .int .i64 0, .int .i64 0, .int .i64 0, .int .i64 0, .int .i64 0]

set_option maxHeartbeats 1000000 in
theorem compose_bad (na nb : Int) (a b : Nat → Int) (ra : Rng a) (rb : Rng b) (h : gcode2 na nb a b ≠ 0) (w : World) :
    Calls Tryd.prog 34 #[iv na a, iv nb b] w fun e w' => e = .returned (.tuple #[zg, .int .i64 (gcode2 na nb a b)]) ∧ Below w.heap.size w w' := by
  have Hc := Lib.hid (fun w => pair_code na nb a b ra rb w)
  have hc := gcode2_cases na nb a b
  obtain ⟨c, ec⟩ : ∃ c, gcode2 na nb a b = c := ⟨_, rfl⟩
  rw [ec] at Hc hc h ⊢
  clear ec ra rb
  go_enter Tryd.func34, Tryd.ntmps34
  go_wp2_with fail
  refine (Hc.out _).mono ?_
  rintro e w1 ⟨rfl, hb1⟩
  obtain ⟨hcl, hfl⟩ := bcell hb1
  have hz : w.heap.size + 1 + 1 < w1.heap.size := by have := hb1.size; simp at this; omega
  have hz0 : w.heap.size < w1.heap.size := by omega
  have hz1 : w.heap.size + 1 < w1.heap.size := by omega
  have B1 : Below w.heap.size w w1 := ((((Below.refl w.heap.size w).alloc (Nat.le_refl _) _).alloc (by simp) _).alloc (by simp; omega) _).trans (Joins.below_le hb1 (by simp; omega))
  have q : ∀ i, w1.cell? ⟨w.heap.size + 1 + 1, i, none⟩ = (#[.int .i64 0, .int .i64 0, .int .i64 0, .int .i64 0, .int .i64 0, .int .i64 0] : Array Value)[i]? := fun i =>
    (hcl _ _ (by simp)).trans (Joins.cell_alloc_mark_at _ _ _ (0, 0) _ i (by simp))
  have q0 := q 0
  have q1 := q 1
  have q2 := q 2
  have q3 := q 3
  have q4 := q 4
  have q5 := q 5
  clear q
  simp at q0 q1 q2 q3 q4 q5
  clear Hc
  rcases hc with rfl | rfl | rfl | rfl
  · exact absurd rfl h
  · clear h
    go_wp2_with fail
    refine bodyPost_ret (v := .tuple #[zg, .int .i64 2]) (by simp [results, Tryd.results34, go_sem, q0, q1, q2, q3, q4, q5]) rfl ⟨rfl, ?_⟩
    repeat' (first | (with_reducible exact B1) | (with_reducible refine Below.setCell ?_ ?_ _) | go_size)
  · clear h
    go_wp2_with fail
    refine bodyPost_ret (v := .tuple #[zg, .int .i64 3]) (by simp [results, Tryd.results34, go_sem, q0, q1, q2, q3, q4, q5]) rfl ⟨rfl, ?_⟩
    repeat' (first | (with_reducible exact B1) | (with_reducible refine Below.setCell ?_ ?_ _) | go_size)
  · clear h
    go_wp2_with fail
    refine bodyPost_ret (v := .tuple #[zg, .int .i64 22]) (by simp [results, Tryd.results34, go_sem, q0, q1, q2, q3, q4, q5]) rfl ⟨rfl, ?_⟩
    repeat' (first | (with_reducible exact B1) | (with_reducible refine Below.setCell ?_ ?_ _) | go_size)

set_option maxHeartbeats 1000000 in
theorem reverse_bad (n : Int) (a : Nat → Int) (ra : Rng a) (h : gcode n a ≠ 0) (w : World) :
    Calls Tryd.prog 45 #[iv n a] w fun e w' => e = .returned (.tuple #[zg, .int .i64 (gcode n a)]) ∧ Below w.heap.size w w' := by
  have Hc := Lib.hid (fun w => gcheck_code n a ra w)
  have hc := gcode_cases n a
  obtain ⟨c, ec⟩ : ∃ c, gcode n a = c := ⟨_, rfl⟩
  rw [ec] at Hc hc h ⊢
  clear ec ra
  go_enter Tryd.func45, Tryd.ntmps45
  go_wp2_with fail
  refine (Hc.out _).mono ?_
  rintro e w1 ⟨rfl, hb1⟩
  obtain ⟨hcl, hfl⟩ := bcell hb1
  have hz1 : w.heap.size + 1 < w1.heap.size := by have := hb1.size; simp at this; omega
  have hz0 : w.heap.size < w1.heap.size := by omega
  have B1 : Below w.heap.size w w1 := (((Below.refl w.heap.size w).alloc (Nat.le_refl _) _).alloc (by simp) _).trans (Joins.below_le hb1 (by simp; omega))
  have q : ∀ i, w1.cell? ⟨w.heap.size + 1, i, none⟩ = (#[.int .i64 0, .int .i64 0, .int .i64 0, .int .i64 0, .int .i64 0, .int .i64 0] : Array Value)[i]? := fun i =>
    (hcl _ _ (by simp)).trans (Joins.cell_alloc_mark_at _ _ _ (0, 0) _ i (by simp))
  have q0 := q 0
  have q1 := q 1
  have q2 := q 2
  have q3 := q 3
  have q4 := q 4
  have q5 := q 5
  clear q
  simp at q0 q1 q2 q3 q4 q5
  clear Hc
  rcases hc with rfl | rfl | rfl
  · exact absurd rfl h
  · clear h
    go_wp2_with fail
    refine bodyPost_ret (v := .tuple #[zg, .int .i64 2]) (by simp [results, Tryd.results45, go_sem, q0, q1, q2, q3, q4, q5]) rfl ⟨rfl, ?_⟩
    repeat' (first | (with_reducible exact B1) | (with_reducible refine Below.setCell ?_ ?_ _) | go_size)
  · clear h
    go_wp2_with fail
    refine bodyPost_ret (v := .tuple #[zg, .int .i64 3]) (by simp [results, Tryd.results45, go_sem, q0, q1, q2, q3, q4, q5]) rfl ⟨rfl, ?_⟩
    repeat' (first | (with_reducible exact B1) | (with_reducible refine Below.setCell ?_ ?_ _) | go_size)

end Go.Proofs.YtacnhklhimogkaaDoor
