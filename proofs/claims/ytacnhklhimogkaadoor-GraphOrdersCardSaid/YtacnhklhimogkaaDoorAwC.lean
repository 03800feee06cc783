/- The texts of graphs in the chapter's example. -/
import Derived.Test.YtacnhklhimogkaaDoorRows
import Derived.Test.YtacnhklhimogkaaDoorShelf
import Derived.Test.YtacnhklhimogkaaDoorT
import Derived.Test.YtacnhklhimogkaaDoorGrM
import Derived.WalkKit
import Derived.WalkSpells
import Derived.WalkLawsBesides
import Derived.Handy
import Derived.Deep.QuietTactic
import Derived.BigQuiet
import Derived.Outline
import Derived.Laws.BitsAllLaws
import Derived.IntWalk
import Derived.Lib.SmallJoins
import Derived.Lib.Hide
namespace Go.Proofs.YtacnhklhimogkaaDoor
set_option linter.unusedVariables false
set_option linter.unusedSimpArgs false
open Go.RowKit



set_option maxRecDepth 100000 in
set_option maxHeartbeats 2000000 in
theorem text_A (w : World) :
    Calls Tryd.prog 56 #[.agg #[.int .i64 3, .int .i64 7, .int .i64 3, .int .i64 6, .int .i64 0, .int .i64 0]] w fun e w' => e = .returned (.string { data := #[48, 49, 50, 32, 48, 49, 32, 49, 50] }) ∧ Below w.heap.size w w' := by
  have hmk : ∀ w, (Instr.makeSlice 80 (.int .i64 3) (.int .i64 3)).run Tryd.prog w = .ok (.slice (some ⟨w.heap.size, 0, none⟩) 3 3) (w.alloc (.cells #[.string ⟨#[]⟩, .string ⟨#[]⟩, .string ⟨#[]⟩] 9)) := fun _ => by kernel_rfl
  go_enter Tryd.func56, Tryd.ntmps56
  go_wp2_with fail
  refine wp_loop_rounds 4 ?_
  rw [rounds_succ]
  go_wp2_with fail
  refine wp_loop_rounds 4 ?_
  rw [rounds_succ]
  go_wp2_with fail
  rw [rounds_succ]
  go_wp2_with fail
  rw [rounds_succ]
  go_wp2_with fail
  rw [rounds_succ]
  go_wp2_with fail
  rw [rounds_succ]
  go_wp2_with fail
  refine wp_loop_rounds 4 ?_
  rw [rounds_succ]
  go_wp2_with fail
  rw [rounds_succ]
  go_wp2_with fail
  rw [rounds_succ]
  go_wp2_with fail
  rw [rounds_succ]
  go_wp2_with fail
  rw [rounds_succ]
  go_wp2_with fail
  refine wp_loop_rounds 4 ?_
  rw [rounds_succ]
  go_wp2_with fail
  rw [rounds_succ]
  go_wp2_with fail
  rw [rounds_succ]
  go_wp2_with fail
  rw [rounds_succ]
  go_wp2_with fail
  rw [rounds_succ]
  go_wp2_with fail
  refine (Tryd.strings_Join (w.heap.size + 1) 0 3 [{ data := #[48, 49, 50] }, { data := #[48, 49] }, { data := #[49, 50] }] { data := #[32] } _ ?_ (by simp) (by decide) (by decide) (by decide +kernel)).mono ?_
  · intro j x hj
    refine (Joins.cell_alloc_mark_at _ _ _ (0, 0) _ _ (by simp)).trans ?_
    rw [Nat.zero_add]
    rcases j with _ | _ | _ | j
    · simp only [List.getElem?_cons_zero, List.getElem?_cons_succ, Option.some.injEq] at hj
      subst hj
      exact congrArg (fun b => some (Value.string b)) (by decide +kernel)
    · simp only [List.getElem?_cons_zero, List.getElem?_cons_succ, Option.some.injEq] at hj
      subst hj
      exact congrArg (fun b => some (Value.string b)) (by decide +kernel)
    · simp only [List.getElem?_cons_zero, List.getElem?_cons_succ, Option.some.injEq] at hj
      subst hj
      exact congrArg (fun b => some (Value.string b)) (by decide +kernel)
    · simp at hj
  rintro e w1 ⟨rfl, hb⟩
  go_wp2_with fail
  go_ret
  refine ⟨congrArg (fun b => Ending.returned (Value.string b)) (by decide +kernel), ?_⟩
  refine Below.trans (((Below.refl _ _).alloc (Nat.le_refl _) _).alloc ?_ _) (Joins.below_le hb ?_)
  · simp
  · go_size

set_option maxRecDepth 100000 in
set_option maxHeartbeats 2000000 in
theorem text_B (w : World) :
    Calls Tryd.prog 56 #[.agg #[.int .i64 3, .int .i64 7, .int .i64 7, .int .i64 7, .int .i64 0, .int .i64 0]] w fun e w' => e = .returned (.string { data := #[48, 49, 50, 32, 48, 49, 50, 32, 48, 49, 50] }) ∧ Below w.heap.size w w' := by
  have hmk : ∀ w, (Instr.makeSlice 80 (.int .i64 3) (.int .i64 3)).run Tryd.prog w = .ok (.slice (some ⟨w.heap.size, 0, none⟩) 3 3) (w.alloc (.cells #[.string ⟨#[]⟩, .string ⟨#[]⟩, .string ⟨#[]⟩] 9)) := fun _ => by kernel_rfl
  go_enter Tryd.func56, Tryd.ntmps56
  go_wp2_with fail
  refine wp_loop_rounds 4 ?_
  rw [rounds_succ]
  go_wp2_with fail
  refine wp_loop_rounds 4 ?_
  rw [rounds_succ]
  go_wp2_with fail
  rw [rounds_succ]
  go_wp2_with fail
  rw [rounds_succ]
  go_wp2_with fail
  rw [rounds_succ]
  go_wp2_with fail
  rw [rounds_succ]
  go_wp2_with fail
  refine wp_loop_rounds 4 ?_
  rw [rounds_succ]
  go_wp2_with fail
  rw [rounds_succ]
  go_wp2_with fail
  rw [rounds_succ]
  go_wp2_with fail
  rw [rounds_succ]
  go_wp2_with fail
  rw [rounds_succ]
  go_wp2_with fail
  refine wp_loop_rounds 4 ?_
  rw [rounds_succ]
  go_wp2_with fail
  rw [rounds_succ]
  go_wp2_with fail
  rw [rounds_succ]
  go_wp2_with fail
  rw [rounds_succ]
  go_wp2_with fail
  rw [rounds_succ]
  go_wp2_with fail
  refine (Tryd.strings_Join (w.heap.size + 1) 0 3 [{ data := #[48, 49, 50] }, { data := #[48, 49, 50] }, { data := #[48, 49, 50] }] { data := #[32] } _ ?_ (by simp) (by decide) (by decide) (by decide +kernel)).mono ?_
  · intro j x hj
    refine (Joins.cell_alloc_mark_at _ _ _ (0, 0) _ _ (by simp)).trans ?_
    rw [Nat.zero_add]
    rcases j with _ | _ | _ | j
    · simp only [List.getElem?_cons_zero, List.getElem?_cons_succ, Option.some.injEq] at hj
      subst hj
      exact congrArg (fun b => some (Value.string b)) (by decide +kernel)
    · simp only [List.getElem?_cons_zero, List.getElem?_cons_succ, Option.some.injEq] at hj
      subst hj
      exact congrArg (fun b => some (Value.string b)) (by decide +kernel)
    · simp only [List.getElem?_cons_zero, List.getElem?_cons_succ, Option.some.injEq] at hj
      subst hj
      exact congrArg (fun b => some (Value.string b)) (by decide +kernel)
    · simp at hj
  rintro e w1 ⟨rfl, hb⟩
  go_wp2_with fail
  go_ret
  refine ⟨congrArg (fun b => Ending.returned (Value.string b)) (by decide +kernel), ?_⟩
  refine Below.trans (((Below.refl _ _).alloc (Nat.le_refl _) _).alloc ?_ _) (Joins.below_le hb ?_)
  · simp
  · go_size

set_option maxRecDepth 100000 in
set_option maxHeartbeats 2000000 in
theorem text_C (w : World) :
    Calls Tryd.prog 56 #[.agg #[.int .i64 3, .int .i64 3, .int .i64 7, .int .i64 5, .int .i64 0, .int .i64 0]] w fun e w' => e = .returned (.string { data := #[48, 49, 32, 48, 49, 50, 32, 48, 50] }) ∧ Below w.heap.size w w' := by
  have hmk : ∀ w, (Instr.makeSlice 80 (.int .i64 3) (.int .i64 3)).run Tryd.prog w = .ok (.slice (some ⟨w.heap.size, 0, none⟩) 3 3) (w.alloc (.cells #[.string ⟨#[]⟩, .string ⟨#[]⟩, .string ⟨#[]⟩] 9)) := fun _ => by kernel_rfl
  go_enter Tryd.func56, Tryd.ntmps56
  go_wp2_with fail
  refine wp_loop_rounds 4 ?_
  rw [rounds_succ]
  go_wp2_with fail
  refine wp_loop_rounds 4 ?_
  rw [rounds_succ]
  go_wp2_with fail
  rw [rounds_succ]
  go_wp2_with fail
  rw [rounds_succ]
  go_wp2_with fail
  rw [rounds_succ]
  go_wp2_with fail
  rw [rounds_succ]
  go_wp2_with fail
  refine wp_loop_rounds 4 ?_
  rw [rounds_succ]
  go_wp2_with fail
  rw [rounds_succ]
  go_wp2_with fail
  rw [rounds_succ]
  go_wp2_with fail
  rw [rounds_succ]
  go_wp2_with fail
  rw [rounds_succ]
  go_wp2_with fail
  refine wp_loop_rounds 4 ?_
  rw [rounds_succ]
  go_wp2_with fail
  rw [rounds_succ]
  go_wp2_with fail
  rw [rounds_succ]
  go_wp2_with fail
  rw [rounds_succ]
  go_wp2_with fail
  rw [rounds_succ]
  go_wp2_with fail
  refine (Tryd.strings_Join (w.heap.size + 1) 0 3 [{ data := #[48, 49] }, { data := #[48, 49, 50] }, { data := #[48, 50] }] { data := #[32] } _ ?_ (by simp) (by decide) (by decide) (by decide +kernel)).mono ?_
  · intro j x hj
    refine (Joins.cell_alloc_mark_at _ _ _ (0, 0) _ _ (by simp)).trans ?_
    rw [Nat.zero_add]
    rcases j with _ | _ | _ | j
    · simp only [List.getElem?_cons_zero, List.getElem?_cons_succ, Option.some.injEq] at hj
      subst hj
      exact congrArg (fun b => some (Value.string b)) (by decide +kernel)
    · simp only [List.getElem?_cons_zero, List.getElem?_cons_succ, Option.some.injEq] at hj
      subst hj
      exact congrArg (fun b => some (Value.string b)) (by decide +kernel)
    · simp only [List.getElem?_cons_zero, List.getElem?_cons_succ, Option.some.injEq] at hj
      subst hj
      exact congrArg (fun b => some (Value.string b)) (by decide +kernel)
    · simp at hj
  rintro e w1 ⟨rfl, hb⟩
  go_wp2_with fail
  go_ret
  refine ⟨congrArg (fun b => Ending.returned (Value.string b)) (by decide +kernel), ?_⟩
  refine Below.trans (((Below.refl _ _).alloc (Nat.le_refl _) _).alloc ?_ _) (Joins.below_le hb ?_)
  · simp
  · go_size

set_option maxRecDepth 100000 in
set_option maxHeartbeats 2000000 in
theorem text_D (w : World) :
    Calls Tryd.prog 56 #[.agg #[.int .i64 3, .int .i64 5, .int .i64 7, .int .i64 6, .int .i64 0, .int .i64 0]] w fun e w' => e = .returned (.string { data := #[48, 50, 32, 48, 49, 50, 32, 49, 50] }) ∧ Below w.heap.size w w' := by
  have hmk : ∀ w, (Instr.makeSlice 80 (.int .i64 3) (.int .i64 3)).run Tryd.prog w = .ok (.slice (some ⟨w.heap.size, 0, none⟩) 3 3) (w.alloc (.cells #[.string ⟨#[]⟩, .string ⟨#[]⟩, .string ⟨#[]⟩] 9)) := fun _ => by kernel_rfl
  go_enter Tryd.func56, Tryd.ntmps56
  go_wp2_with fail
  refine wp_loop_rounds 4 ?_
  rw [rounds_succ]
  go_wp2_with fail
  refine wp_loop_rounds 4 ?_
  rw [rounds_succ]
  go_wp2_with fail
  rw [rounds_succ]
  go_wp2_with fail
  rw [rounds_succ]
  go_wp2_with fail
  rw [rounds_succ]
  go_wp2_with fail
  rw [rounds_succ]
  go_wp2_with fail
  refine wp_loop_rounds 4 ?_
  rw [rounds_succ]
  go_wp2_with fail
  rw [rounds_succ]
  go_wp2_with fail
  rw [rounds_succ]
  go_wp2_with fail
  rw [rounds_succ]
  go_wp2_with fail
  rw [rounds_succ]
  go_wp2_with fail
  refine wp_loop_rounds 4 ?_
  rw [rounds_succ]
  go_wp2_with fail
  rw [rounds_succ]
  go_wp2_with fail
  rw [rounds_succ]
  go_wp2_with fail
  rw [rounds_succ]
  go_wp2_with fail
  rw [rounds_succ]
  go_wp2_with fail
  refine (Tryd.strings_Join (w.heap.size + 1) 0 3 [{ data := #[48, 50] }, { data := #[48, 49, 50] }, { data := #[49, 50] }] { data := #[32] } _ ?_ (by simp) (by decide) (by decide) (by decide +kernel)).mono ?_
  · intro j x hj
    refine (Joins.cell_alloc_mark_at _ _ _ (0, 0) _ _ (by simp)).trans ?_
    rw [Nat.zero_add]
    rcases j with _ | _ | _ | j
    · simp only [List.getElem?_cons_zero, List.getElem?_cons_succ, Option.some.injEq] at hj
      subst hj
      exact congrArg (fun b => some (Value.string b)) (by decide +kernel)
    · simp only [List.getElem?_cons_zero, List.getElem?_cons_succ, Option.some.injEq] at hj
      subst hj
      exact congrArg (fun b => some (Value.string b)) (by decide +kernel)
    · simp only [List.getElem?_cons_zero, List.getElem?_cons_succ, Option.some.injEq] at hj
      subst hj
      exact congrArg (fun b => some (Value.string b)) (by decide +kernel)
    · simp at hj
  rintro e w1 ⟨rfl, hb⟩
  go_wp2_with fail
  go_ret
  refine ⟨congrArg (fun b => Ending.returned (Value.string b)) (by decide +kernel), ?_⟩
  refine Below.trans (((Below.refl _ _).alloc (Nat.le_refl _) _).alloc ?_ _) (Joins.below_le hb ?_)
  · simp
  · go_size
end Go.Proofs.YtacnhklhimogkaaDoor
