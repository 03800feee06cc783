/- The rows that graph.Parse reads from the parts of the two texts of the chapter's example. -/
import Derived.Test.YtacnhklhimogkaaDoorRows
import Derived.Test.YtacnhklhimogkaaDoorAwA
import Derived.Test.YtacnhklhimogkaaDoorT
import Derived.Test.YtacnhklhimogkaaDoorGrM
import Derived.Lib.ConvBytes
import Derived.WalkKit
import Derived.WalkSpells
import Derived.WalkLawsBesides
import Derived.Handy
import Derived.Deep.QuietTactic
import Derived.BigQuiet
import Derived.Outline
import Derived.Laws.BitsAllLaws
import Derived.IntWalk
import Derived.Lib.SmallJoins
import Derived.Lib.Hide
namespace Go.Proofs.YtacnhklhimogkaaDoor
set_option linter.unusedVariables false
set_option linter.unusedSimpArgs false
open Go.RowKit



theorem conv_bytes (w : World) (l : List UInt8) : ∃ cap V, (convert 9 82 (.string { data := l.toArray })).run Tryd.prog w = .ok (.slice (some ⟨w.heap.size, 0, none⟩) l.length cap) V ∧ Below w.heap.size w V ∧
    ∀ (i : Nat) b, l[i]? = some b → V.cell? ⟨w.heap.size, i, none⟩ = some (.int .u8 (b.toNat : Int)) := by
  have hs : Tryd.prog.underlying 9 = some .string := by kernel_rfl
  have hd : Tryd.prog.underlying 82 = some (.slice 5) := by kernel_rfl
  have he : Tryd.prog.underlying 5 = some (.int .u8) := by kernel_rfl
  refine ⟨_, _, Lib.run_convert_string_bytes w _ _ _ _ hs hd he, ⟨rfl, rfl, rfl, ?_, fun k hk => Lib.bytesWorld_at_old w _ _ k hk⟩, fun i b hb => ?_⟩
  · have h := Lib.bytesWorld_at_new w 5 { data := l.toArray }
    have := (Array.getElem?_eq_some_iff.1 h).1
    omega
  · rw [Joins.cell_of_block (Lib.bytesWorld_at_new w _ _) i]
    have hi : i < l.length := (List.getElem?_eq_some_iff.1 hb).1
    unfold Lib.bytesCells
    rw [Array.getElem?_append_left (by simpa using hi)]
    simp [hb]


set_option maxRecDepth 100000 in
set_option maxHeartbeats 1000000 in
theorem prow_A0 (w : World) (g k : Nat) (h0 : w.cell? ⟨g, 0, none⟩ = some (.slice (some ⟨k, 0, none⟩) 3 3)) (h1 : w.cell? ⟨k, 0, none⟩ = some (.string { data := #[48, 49, 50] })) :
    Calls Tryd.prog 59 #[.int .i64 0, .pointer (some ⟨g, 0, none⟩)] w fun e w' => e = .returned (.int .i64 7) ∧ Below w.heap.size w w' := by
  obtain ⟨cap, V, hrun, hB, hc⟩ := conv_bytes w [48, 49, 50]
  have b0 : V.cell? ⟨w.heap.size, 0, none⟩ = some (.int .u8 48) := hc 0 48 rfl
  have b1 : V.cell? ⟨w.heap.size, 1, none⟩ = some (.int .u8 49) := hc 1 49 rfl
  have b2 : V.cell? ⟨w.heap.size, 2, none⟩ = some (.int .u8 50) := hc 2 50 rfl
  have o0 : bits .or .i64 0 1 = 1 := by decide +kernel
  have o1 : bits .or .i64 1 2 = 3 := by decide +kernel
  have o2 : bits .or .i64 3 4 = 7 := by decide +kernel
  have HB := Lib.hid hB
  clear hc hB
  simp only [List.length_cons, List.length_nil, Nat.reduceAdd] at hrun
  go_enter Tryd.func59, Tryd.ntmps59
  go_wp2_with fail
  go_rounds 4
  go_ret
  exact ⟨rfl, HB.out⟩

set_option maxRecDepth 100000 in
set_option maxHeartbeats 1000000 in
theorem prow_A1 (w : World) (g k : Nat) (h0 : w.cell? ⟨g, 0, none⟩ = some (.slice (some ⟨k, 0, none⟩) 3 3)) (h1 : w.cell? ⟨k, 1, none⟩ = some (.string { data := #[48, 49] })) :
    Calls Tryd.prog 59 #[.int .i64 1, .pointer (some ⟨g, 0, none⟩)] w fun e w' => e = .returned (.int .i64 3) ∧ Below w.heap.size w w' := by
  obtain ⟨cap, V, hrun, hB, hc⟩ := conv_bytes w [48, 49]
  have b0 : V.cell? ⟨w.heap.size, 0, none⟩ = some (.int .u8 48) := hc 0 48 rfl
  have b1 : V.cell? ⟨w.heap.size, 1, none⟩ = some (.int .u8 49) := hc 1 49 rfl
  have o0 : bits .or .i64 0 1 = 1 := by decide +kernel
  have o1 : bits .or .i64 1 2 = 3 := by decide +kernel
  have HB := Lib.hid hB
  clear hc hB
  simp only [List.length_cons, List.length_nil, Nat.reduceAdd] at hrun
  go_enter Tryd.func59, Tryd.ntmps59
  go_wp2_with fail
  go_rounds 3
  go_ret
  exact ⟨rfl, HB.out⟩

set_option maxRecDepth 100000 in
set_option maxHeartbeats 1000000 in
theorem prow_A2 (w : World) (g k : Nat) (h0 : w.cell? ⟨g, 0, none⟩ = some (.slice (some ⟨k, 0, none⟩) 3 3)) (h1 : w.cell? ⟨k, 2, none⟩ = some (.string { data := #[49, 50] })) :
    Calls Tryd.prog 59 #[.int .i64 2, .pointer (some ⟨g, 0, none⟩)] w fun e w' => e = .returned (.int .i64 6) ∧ Below w.heap.size w w' := by
  obtain ⟨cap, V, hrun, hB, hc⟩ := conv_bytes w [49, 50]
  have b0 : V.cell? ⟨w.heap.size, 0, none⟩ = some (.int .u8 49) := hc 0 49 rfl
  have b1 : V.cell? ⟨w.heap.size, 1, none⟩ = some (.int .u8 50) := hc 1 50 rfl
  have o0 : bits .or .i64 0 2 = 2 := by decide +kernel
  have o1 : bits .or .i64 2 4 = 6 := by decide +kernel
  have HB := Lib.hid hB
  clear hc hB
  simp only [List.length_cons, List.length_nil, Nat.reduceAdd] at hrun
  go_enter Tryd.func59, Tryd.ntmps59
  go_wp2_with fail
  go_rounds 3
  go_ret
  exact ⟨rfl, HB.out⟩

set_option maxRecDepth 100000 in
set_option maxHeartbeats 1000000 in
theorem prow_B0 (w : World) (g k : Nat) (h0 : w.cell? ⟨g, 0, none⟩ = some (.slice (some ⟨k, 0, none⟩) 2 2)) (h1 : w.cell? ⟨k, 0, none⟩ = some (.string { data := #[48, 49] })) :
    Calls Tryd.prog 59 #[.int .i64 0, .pointer (some ⟨g, 0, none⟩)] w fun e w' => e = .returned (.int .i64 3) ∧ Below w.heap.size w w' := by
  obtain ⟨cap, V, hrun, hB, hc⟩ := conv_bytes w [48, 49]
  have b0 : V.cell? ⟨w.heap.size, 0, none⟩ = some (.int .u8 48) := hc 0 48 rfl
  have b1 : V.cell? ⟨w.heap.size, 1, none⟩ = some (.int .u8 49) := hc 1 49 rfl
  have o0 : bits .or .i64 0 1 = 1 := by decide +kernel
  have o1 : bits .or .i64 1 2 = 3 := by decide +kernel
  have HB := Lib.hid hB
  clear hc hB
  simp only [List.length_cons, List.length_nil, Nat.reduceAdd] at hrun
  go_enter Tryd.func59, Tryd.ntmps59
  go_wp2_with fail
  go_rounds 3
  go_ret
  exact ⟨rfl, HB.out⟩

set_option maxRecDepth 100000 in
set_option maxHeartbeats 1000000 in
theorem prow_B1 (w : World) (g k : Nat) (h0 : w.cell? ⟨g, 0, none⟩ = some (.slice (some ⟨k, 0, none⟩) 2 2)) (h1 : w.cell? ⟨k, 1, none⟩ = some (.string { data := #[48] })) :
    Calls Tryd.prog 59 #[.int .i64 1, .pointer (some ⟨g, 0, none⟩)] w fun e w' => e = .returned (.int .i64 1) ∧ Below w.heap.size w w' := by
  obtain ⟨cap, V, hrun, hB, hc⟩ := conv_bytes w [48]
  have b0 : V.cell? ⟨w.heap.size, 0, none⟩ = some (.int .u8 48) := hc 0 48 rfl
  have o0 : bits .or .i64 0 1 = 1 := by decide +kernel
  have HB := Lib.hid hB
  clear hc hB
  simp only [List.length_cons, List.length_nil, Nat.reduceAdd] at hrun
  go_enter Tryd.func59, Tryd.ntmps59
  go_wp2_with fail
  go_rounds 2
  go_ret
  exact ⟨rfl, HB.out⟩
end Go.Proofs.YtacnhklhimogkaaDoor
