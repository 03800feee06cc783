/- strings.Split of the two texts of the chapter's example. -/
import Derived.Test.YtacnhklhimogkaaDoorRows
import Derived.WalkKit
import Derived.WalkSpells
import Derived.WalkLawsBesides
import Derived.Handy
import Derived.Deep.QuietTactic
import Derived.BigQuiet
import Derived.Outline
import Derived.Laws.BitsAllLaws
import Derived.IntWalk
import Derived.Lib.SmallJoins
import Derived.Lib.Hide
namespace Go.Proofs.YtacnhklhimogkaaDoor
set_option linter.unusedVariables false
set_option linter.unusedSimpArgs false
open Go.RowKit


theorem sp0 : (({ data := #[32] } : ByteArray)[0]'(by decide)).toNat = 32 := by decide +kernel
theorem cs_A (w : World) : (callFunc 83 #[.string { data := #[48, 49, 50, 32, 48, 49, 32, 49, 50] }, .int .u8 32]).run Tryd.prog w = .ok (.value (.int .i64 2)) w := by kernel_rfl
theorem ix_A0 (w : World) : (callFunc 92 #[.string { data := #[48, 49, 50, 32, 48, 49, 32, 49, 50] }, .int .u8 32]).run Tryd.prog w = .ok (.value (.int .i64 3)) w := by kernel_rfl
theorem xa_A0 : (({ data := #[48, 49, 50, 32, 48, 49, 32, 49, 50] } : ByteArray).extract 0 3) = { data := #[48, 49, 50] } := by decide +kernel
theorem xb_A0 : (({ data := #[48, 49, 50, 32, 48, 49, 32, 49, 50] } : ByteArray).extract 4 9) = { data := #[48, 49, 32, 49, 50] } := by decide +kernel
theorem ix_A1 (w : World) : (callFunc 92 #[.string { data := #[48, 49, 32, 49, 50] }, .int .u8 32]).run Tryd.prog w = .ok (.value (.int .i64 2)) w := by kernel_rfl
theorem xa_A1 : (({ data := #[48, 49, 32, 49, 50] } : ByteArray).extract 0 2) = { data := #[48, 49] } := by decide +kernel
theorem xb_A1 : (({ data := #[48, 49, 32, 49, 50] } : ByteArray).extract 3 5) = { data := #[49, 50] } := by decide +kernel

set_option maxRecDepth 100000 in
theorem count_A (w : World) :
    Calls Tryd.prog 76 #[.string { data := #[48, 49, 50, 32, 48, 49, 32, 49, 50] }, .string ⟨#[32]⟩] w fun e w' => e = .returned (.int .i64 2) ∧ w = w' := by
  have h1 := cs_A
  have h2 := sp0
  go_enter Tryd.func76, Tryd.ntmps76
  go_wp2
  go_ret
  exact ⟨rfl, rfl⟩

set_option maxRecDepth 100000 in
theorem index_A0 (w : World) :
    Calls Tryd.prog 77 #[.string { data := #[48, 49, 50, 32, 48, 49, 32, 49, 50] }, .string ⟨#[32]⟩] w fun e w' => e = .returned (.int .i64 3) ∧ w = w' := by
  have h1 := ix_A0
  have h2 := sp0
  go_enter Tryd.func77, Tryd.ntmps77
  go_wp2
  go_ret
  exact ⟨rfl, rfl⟩

set_option maxRecDepth 100000 in
theorem index_A1 (w : World) :
    Calls Tryd.prog 77 #[.string { data := #[48, 49, 32, 49, 50] }, .string ⟨#[32]⟩] w fun e w' => e = .returned (.int .i64 2) ∧ w = w' := by
  have h1 := ix_A1
  have h2 := sp0
  go_enter Tryd.func77, Tryd.ntmps77
  go_wp2
  go_ret
  exact ⟨rfl, rfl⟩

set_option maxRecDepth 100000 in
set_option maxHeartbeats 1000000 in
theorem gsplit_A (w : World) :
    Calls Tryd.prog 70 #[.string { data := #[48, 49, 50, 32, 48, 49, 32, 49, 50] }, .string ⟨#[32]⟩, .int .i64 0, .int .i64 (-1)] w
      fun e w' => e = .returned (.slice (some ⟨w.heap.size, 0, none⟩) 3 3) ∧ w' = w.alloc (.cells #[.string { data := #[48, 49, 50] }, .string { data := #[48, 49] }, .string { data := #[49, 50] }] 9) := by
  have hmk : ∀ w, (Instr.makeSlice 80 (.int .i64 3) (.int .i64 3)).run Tryd.prog w = .ok (.slice (some ⟨w.heap.size, 0, none⟩) 3 3) (w.alloc (.cells #[.string ⟨#[]⟩, .string ⟨#[]⟩, .string ⟨#[]⟩] 9)) := fun _ => by kernel_rfl
  go_enter Tryd.func70, Tryd.ntmps70
  go_wp2_with fail
  refine (count_A _).mono ?_
  rintro e w' ⟨rfl, rfl⟩
  go_wp2_with fail
  refine wp_loop_rounds 4 ?_
  rw [rounds_succ]
  go_wp2_with fail
  refine (index_A0 _).mono ?_
  rintro e w' ⟨rfl, rfl⟩
  go_wp2_with fail
  rw [rounds_succ]
  go_wp2_with fail
  rw [xb_A0]
  refine (index_A1 _).mono ?_
  rintro e w' ⟨rfl, rfl⟩
  go_wp2_with fail
  rw [rounds_succ]
  go_wp2_with fail
  go_ret
  rw [xa_A0, xa_A1, xb_A1]
  exact ⟨rfl, rfl⟩

theorem split_A (w : World) :
    Calls Tryd.prog 58 #[.string { data := #[48, 49, 50, 32, 48, 49, 32, 49, 50] }, .string ⟨#[32]⟩] w
      fun e w' => e = .returned (.slice (some ⟨w.heap.size, 0, none⟩) 3 3) ∧ w' = w.alloc (.cells #[.string { data := #[48, 49, 50] }, .string { data := #[48, 49] }, .string { data := #[49, 50] }] 9) := by
  go_enter Tryd.func58, Tryd.ntmps58
  go_wp2_with fail
  refine (gsplit_A _).mono ?_
  rintro e w' ⟨rfl, rfl⟩
  go_wp2_with fail
  go_ret
  exact ⟨rfl, rfl⟩

theorem cs_B (w : World) : (callFunc 83 #[.string { data := #[48, 49, 32, 48] }, .int .u8 32]).run Tryd.prog w = .ok (.value (.int .i64 1)) w := by kernel_rfl
theorem ix_B0 (w : World) : (callFunc 92 #[.string { data := #[48, 49, 32, 48] }, .int .u8 32]).run Tryd.prog w = .ok (.value (.int .i64 2)) w := by kernel_rfl
theorem xa_B0 : (({ data := #[48, 49, 32, 48] } : ByteArray).extract 0 2) = { data := #[48, 49] } := by decide +kernel
theorem xb_B0 : (({ data := #[48, 49, 32, 48] } : ByteArray).extract 3 4) = { data := #[48] } := by decide +kernel

set_option maxRecDepth 100000 in
theorem count_B (w : World) :
    Calls Tryd.prog 76 #[.string { data := #[48, 49, 32, 48] }, .string ⟨#[32]⟩] w fun e w' => e = .returned (.int .i64 1) ∧ w = w' := by
  have h1 := cs_B
  have h2 := sp0
  go_enter Tryd.func76, Tryd.ntmps76
  go_wp2
  go_ret
  exact ⟨rfl, rfl⟩

set_option maxRecDepth 100000 in
theorem index_B0 (w : World) :
    Calls Tryd.prog 77 #[.string { data := #[48, 49, 32, 48] }, .string ⟨#[32]⟩] w fun e w' => e = .returned (.int .i64 2) ∧ w = w' := by
  have h1 := ix_B0
  have h2 := sp0
  go_enter Tryd.func77, Tryd.ntmps77
  go_wp2
  go_ret
  exact ⟨rfl, rfl⟩

set_option maxRecDepth 100000 in
set_option maxHeartbeats 1000000 in
theorem gsplit_B (w : World) :
    Calls Tryd.prog 70 #[.string { data := #[48, 49, 32, 48] }, .string ⟨#[32]⟩, .int .i64 0, .int .i64 (-1)] w
      fun e w' => e = .returned (.slice (some ⟨w.heap.size, 0, none⟩) 2 2) ∧ w' = w.alloc (.cells #[.string { data := #[48, 49] }, .string { data := #[48] }] 9) := by
  have hmk : ∀ w, (Instr.makeSlice 80 (.int .i64 2) (.int .i64 2)).run Tryd.prog w = .ok (.slice (some ⟨w.heap.size, 0, none⟩) 2 2) (w.alloc (.cells #[.string ⟨#[]⟩, .string ⟨#[]⟩] 9)) := fun _ => by kernel_rfl
  go_enter Tryd.func70, Tryd.ntmps70
  go_wp2_with fail
  refine (count_B _).mono ?_
  rintro e w' ⟨rfl, rfl⟩
  go_wp2_with fail
  refine wp_loop_rounds 3 ?_
  rw [rounds_succ]
  go_wp2_with fail
  refine (index_B0 _).mono ?_
  rintro e w' ⟨rfl, rfl⟩
  go_wp2_with fail
  rw [rounds_succ]
  go_wp2_with fail
  go_ret
  rw [xa_B0, xb_B0]
  exact ⟨rfl, rfl⟩

theorem split_B (w : World) :
    Calls Tryd.prog 58 #[.string { data := #[48, 49, 32, 48] }, .string ⟨#[32]⟩] w
      fun e w' => e = .returned (.slice (some ⟨w.heap.size, 0, none⟩) 2 2) ∧ w' = w.alloc (.cells #[.string { data := #[48, 49] }, .string { data := #[48] }] 9) := by
  go_enter Tryd.func58, Tryd.ntmps58
  go_wp2_with fail
  refine (gsplit_B _).mono ?_
  rintro e w' ⟨rfl, rfl⟩
  go_wp2_with fail
  go_ret
  exact ⟨rfl, rfl⟩

end Go.Proofs.YtacnhklhimogkaaDoor
