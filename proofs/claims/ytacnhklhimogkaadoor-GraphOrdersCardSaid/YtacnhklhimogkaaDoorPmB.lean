/- Permutations of at most five processes: their check, the image of a set, and the kernel of a graph. -/
import Derived.Test.YtacnhklhimogkaaDoorT
import Derived.Test.YtacnhklhimogkaaDoorGrB
import Derived.Test.YtacnhklhimogkaaDoorGrA
import Derived.Test.YtacnhklhimogkaaDoorGrC
import Derived.Test.YtacnhklhimogkaaDoorGrD
import Derived.Test.YtacnhklhimogkaaDoorGrE
import Derived.Test.YtacnhklhimogkaaDoorPmM
import Derived.LoopTactic
import Derived.Deep.RegionWith
import Derived.Test.YtacnhklhimogkaaDoorGrM
import Derived.WalkKit
import Derived.WalkSpells
import Derived.WalkLawsBesides
import Derived.Handy
import Derived.Deep.QuietTactic
import Derived.BigQuiet
import Derived.Outline
import Derived.Laws.BitsAllLaws
import Derived.IntWalk
import Derived.Lib.SmallJoins
import Derived.Lib.Hide
namespace Go.Proofs.YtacnhklhimogkaaDoor
set_option linter.unusedVariables false
set_option linter.unusedSimpArgs false
open Go.RowKit






/-- A list of n integers that lies there. -/
structure Arr (w : World) (b off n : Nat) (f : Nat → Nat) : Prop where
  lt : b < w.heap.size
  cell : ∀ i, i < n → w.cell? ⟨b, off + i, none⟩ = some (.int .i64 (f i : Int))
theorem Arr.below {w W : World} {b off n : Nat} {f : Nat → Nat} (h : Arr w b off n f) (hb : Below w.heap.size w W) : Arr W b off n f :=
  ⟨Nat.lt_of_lt_of_le h.lt hb.size, fun i hi => (hb.cell (p := ⟨b, off + i, none⟩) h.lt).trans (h.cell i hi)⟩

set_option maxHeartbeats 400000 in
theorem index_no (i cap b off v : Nat) (f : Nat → Nat) (hi : i ≤ 5) (hv : ∀ k, k < i → f k ≠ v) (w : World) (hA : ∀ k, k < i → w.cell? ⟨b, off + k, none⟩ = some (.int .i64 (f k : Int))) :
    Calls Tryd.prog 78 #[.slice (some ⟨b, off, none⟩) i cap, .int .i64 (v : Int)] w fun e w' => e = .returned (.int .i64 (-1)) ∧ w = w' := by
  have HA := Lib.hid hA
  have Hv := Lib.hid hv
  clear hA hv
  go_enter Tryd.func78, Tryd.ntmps78
  go_wp2_with fail
  go_loop [8] (fun j => ∃ k : Nat, k ≤ i ∧ j = .int .i64 k) (fun j => i - (intOf j).toNat)
  case atStart => exact ⟨0, by omega, rfl⟩
  case round =>
    obtain ⟨k, hk, rfl⟩ := hrel
    by_cases hlt : k < i
    · have hc := HA.out k hlt
      have hne : ((v : Int) == (f k : Int)) = false := by
        have := Hv.out k hlt
        rw [beq_eq_false_iff_ne]
        omega
      go_wp2_with fail
      go_round
      case rel => exact ⟨k + 1, by omega, by go_num⟩
      case measure => simp [intOf]; omega
    · have hki : k = i := by omega
      subst hki
      go_wp2_with fail
      go_ret
      exact ⟨rfl, rfl⟩

set_option maxHeartbeats 400000 in
theorem contains_no (i cap b off v : Nat) (f : Nat → Nat) (hi : i ≤ 5) (hv : ∀ k, k < i → f k ≠ v) (w : World) (hA : ∀ k, k < i → w.cell? ⟨b, off + k, none⟩ = some (.int .i64 (f k : Int))) :
    Calls Tryd.prog 71 #[.slice (some ⟨b, off, none⟩) i cap, .int .i64 (v : Int)] w fun e w' => e = .returned (.bool false) ∧ w = w' := by
  have HA := Lib.hid hA
  have Hv := Lib.hid hv
  clear hA hv
  go_enter Tryd.func71, Tryd.ntmps71
  go_wp2_with fail
  refine (index_no i cap b off v f hi Hv.out _ HA.out).mono ?_
  rintro e w' ⟨rfl, rfl⟩
  go_wp2_with fail
  go_ret
  exact ⟨rfl, rfl⟩

set_option maxHeartbeats 400000 in
theorem pchk_ok (n cap b off : Nat) (f : Nat → Nat) (h1 : 1 ≤ n) (h5 : n ≤ 5) (hc : n ≤ cap) (hf : Perm n f) (w : World) (hA : Arr w b off n f) :
    Calls Tryd.prog 64 #[.slice (some ⟨b, off, none⟩) n cap] w fun e w' => e = .returned (.int .i64 0) ∧ w = w' := by
  have HA := Lib.hid hA
  have Hf := Lib.hid hf
  clear hA hf
  go_enter Tryd.func64, Tryd.ntmps64
  go_wp2_with fail
  go_loop [15] (fun j => ∃ k : Nat, k ≤ n ∧ j = .int .i64 k) (fun j => n - (intOf j).toNat)
  case atStart => exact ⟨0, by omega, rfl⟩
  case round =>
    obtain ⟨k, hk, rfl⟩ := hrel
    by_cases hlt : k < n
    · have hcell := HA.out.cell k hlt
      have hx := Hf.out.lt k hlt
      have hcon := fun w hA => contains_no k cap b off (f k) f (by omega) (fun j hj e => by have := Hf.out.inj j k (by omega) hlt e; omega) w hA
      obtain ⟨x, hxx⟩ : ∃ x, f k = x := ⟨_, rfl⟩
      rw [hxx] at hcell hx hcon
      have Hcon := Lib.hid hcon
      clear hcon hxx
      go_wp2_with fail
      refine (Hcon.out _ (fun j hj => HA.out.cell j (by omega))).mono ?_
      rintro e w' ⟨rfl, rfl⟩
      go_wp2_with fail
      go_round
      case rel => exact ⟨k + 1, by omega, by go_num⟩
      case measure => simp [intOf]; omega
    · have hkn : k = n := by omega
      subst hkn
      go_wp2_with fail
      go_ret
      exact ⟨rfl, rfl⟩

end Go.Proofs.YtacnhklhimogkaaDoor
