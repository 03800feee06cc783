/- Complete and silent graphs for whatever number: what the package and the specification answer. -/
import Derived.Test.YtlkhbfaoebgmkaaDoorCkA
import Derived.Test.YtlkhbfaoebgmkaaDoorGcB
import Derived.Test.YtlkhbfaoebgmkaaDoorGrN
import Derived.Test.YtlkhbfaoebgmkaaDoorPmA
import Derived.Test.YtlkhbfaoebgmkaaDoorPmM
import Derived.Test.YtlkhbfaoebgmkaaDoorPmD
import Derived.Test.YtlkhbfaoebgmkaaDoorGrR
import Derived.Test.YtlkhbfaoebgmkaaDoorTb
import Derived.LoopTactic
import Derived.Deep.RegionWith
import Derived.WalkKit
import Derived.WalkSpells
import Derived.WalkLawsBesides
import Derived.Handy
import Derived.Deep.QuietTactic
import Derived.BigQuiet
import Derived.Outline
import Derived.Laws.BitsAllLaws
import Derived.IntWalk
import Derived.Lib.SmallJoins
import Derived.Lib.Hide
namespace Go.Proofs.YtlkhbfaoebgmkaaDoor
set_option linter.unusedVariables false
set_option linter.unusedSimpArgs false
open Go.RowKit

theorem pall_any (n : Nat) (hn : 1 ≤ n ∧ n ≤ 5) (w : World) :
    Calls Tryd.prog 37 #[.int .i64 (n : Int)] w fun e w' => e = .returned (.tuple #[.int .i64 ((2 ^ n - 1 : Nat) : Int), .int .i64 0]) ∧ w = w' := by
  obtain rfl | rfl | rfl | rfl | rfl : n = 1 ∨ n = 2 ∨ n = 3 ∨ n = 4 ∨ n = 5 := by omega
  all_goals
    have HP := Lib.hid (fun w => pcheck_any _ hn 0 (by decide) w)
    clear hn
    go_enter Tryd.func37, Tryd.ntmps37
    go_wp2_with fail
    refine (HP.out _).mono ?_
    rintro e w' ⟨rfl, rfl⟩
    go_wp2_with fail
    go_ret2
    exact ⟨by kernel_rfl, rfl⟩
theorem pall_bad (n : Int) (h : n < 1 ∨ 5 < n) (w : World) :
    Calls Tryd.prog 37 #[.int .i64 n] w fun e w' => e = .returned (.tuple #[.int .i64 0, .int .i64 1]) ∧ w = w' := by
  have hc : ∀ w, Calls Tryd.prog 42 #[.int .i64 n, .int .i64 0] w fun e w' => e = .returned (.int .i64 1) ∧ w = w' := by
    intro w
    rcases h with h | h
    · go_enter Tryd.func42, Tryd.ntmps42
      go_wp2
      go_ret
      exact ⟨rfl, rfl⟩
    · go_enter Tryd.func42, Tryd.ntmps42
      go_wp2
      go_ret
      exact ⟨rfl, rfl⟩
  have HC := Lib.hid hc
  clear hc h
  go_enter Tryd.func37, Tryd.ntmps37
  go_wp2_with fail
  refine (HC.out _).mono ?_
  rintro e w' ⟨rfl, rfl⟩
  go_wp2_with fail
  go_ret2
  exact ⟨rfl, rfl⟩

def cmpl (n p : Nat) : Nat := if p < n then 2 ^ n - 1 else 0
theorem pad_cmpl (n p : Nat) : pad n (fun p => ((2 ^ n - 1 : Nat) : Int)) p = ((cmpl n p : Nat) : Int) := by unfold pad cmpl; split <;> rfl

theorem complete1_any (p : Nat) (A : Nat) (v : Int) (w : World) (hA : w.cell? ⟨A, 0, none⟩ = some (.int .i64 v)) :
    Calls Tryd.prog 39 #[.int .i64 (p : Int), .pointer (some ⟨A, 0, none⟩)] w fun e w' => e = .returned (.int .i64 v) ∧ ∃ n, w' = w.drewN n := by
  go_enter Tryd.func39, Tryd.ntmps39
  go_wp2_with fail
  go_ret
  exact ⟨rfl, 0, rfl⟩

set_option maxHeartbeats 1000000 in
theorem complete_ok (n : Nat) (hn : 1 ≤ n ∧ n ≤ 5) (w : World) :
    Calls Tryd.prog 8 #[.int .i64 (n : Int)] w fun e w' => e = .returned (.tuple #[gv n (cmpl n), .int .i64 0]) ∧ Below w.heap.size w w' := by
  have HP := Lib.hid (fun w => pall_any n hn w)
  have h1 : 1 ≤ n := hn.1
  have h5 : n ≤ 5 := hn.2
  obtain ⟨v, hv⟩ : ∃ v, 2 ^ n - 1 = v := ⟨_, rfl⟩
  have hpad : ∀ p, pad n (fun _ => ((v : Nat) : Int)) p = ((cmpl n p : Nat) : Int) := fun p => by rw [← hv]; exact pad_cmpl n p
  rw [hv] at HP
  have Hpad := Lib.hid hpad
  clear hv hpad
  go_enter Tryd.func8, Tryd.ntmps8
  go_wp2_with fail
  refine (HP.out _).mono ?_
  rintro e w' ⟨rfl, rfl⟩
  clear HP
  go_wp2_with fail
  obtain ⟨W, hW⟩ : ∃ W, (w.alloc (.cells #[.int .i64 0, .int .i64 0, .int .i64 0, .int .i64 0, .int .i64 0, .int .i64 0] 24)).alloc (.cells #[.int .i64 (v : Int)] 3) = W := ⟨_, rfl⟩
  rw [hW]
  have XZ : Box W w.heap.size #[.int .i64 0, .int .i64 0, .int .i64 0, .int .i64 0, .int .i64 0, .int .i64 0] 24 := hW ▸ (Box.new w _ _).alloc _
  have XV : Box W (w.heap.size + 1) #[.int .i64 (v : Int)] 3 := hW ▸ Box.at_ (by simp) _ _
  have B1 : Below w.heap.size w W := hW ▸ ((Below.refl _ _).alloc (Nat.le_refl _) _).alloc (by simp) _
  clear hW
  refine (rows_any n ⟨h1, h5⟩ 39 _ (fun _ => ((v : Nat) : Int)) _ (fun args w => by kernel_rfl) ?_).mono ?_
  · intro p W' hp hW'
    exact complete1_any p _ _ W' ((XV.below hW' XV.lt).cell 0)
  rintro e w1 ⟨rfl, hb1⟩
  rw [Hpad.out, Hpad.out, Hpad.out, Hpad.out, Hpad.out]
  have YZ := XZ.below hb1 XZ.lt
  have B2 := B1.trans (Joins.below_le hb1 B1.size)
  clear XZ XV B1 hb1
  obtain ⟨⟨z0, z1, z2, z3, z4, z5⟩, zf0, zf1, zf2, zf3, zf4, zf5⟩ := YZ.six
  have hlZ := YZ.lt
  clear YZ
  go_wp2_with fail
  refine bodyPost_ret (v := .tuple #[gv n (cmpl n), .int .i64 0]) (by simp [results, Tryd.results8, go_sem, z0, z1, z2, z3, z4, z5]) rfl ⟨rfl, ?_⟩
  repeat' (first | (with_reducible exact B2) | (with_reducible refine Below.setCell ?_ ?_ _) | go_size)

set_option maxHeartbeats 1000000 in
theorem complete_bad (n : Int) (h : n < 1 ∨ 5 < n) (w : World) :
    Calls Tryd.prog 8 #[.int .i64 n] w fun e w' => e = .returned (.tuple #[zg, .int .i64 2]) ∧ Below w.heap.size w w' := by
  have HP := Lib.hid (fun w => pall_bad n h w)
  clear h
  go_enter Tryd.func8, Tryd.ntmps8
  go_wp2_with fail
  refine (HP.out _).mono ?_
  rintro e w' ⟨rfl, rfl⟩
  clear HP
  go_wp2_with fail
  refine bodyPost_ret (v := .tuple #[zg, .int .i64 2]) (by simp [results, Tryd.results8, go_sem]) rfl ⟨rfl, ?_⟩
  repeat' (first | (with_reducible exact Below.refl _ _) | (with_reducible refine Below.setCell ?_ ?_ _) | (with_reducible refine Below.alloc ?_ ?_ _) | go_size)

theorem silent_bad (n : Int) (h : n < 1 ∨ 5 < n) (w : World) :
    Calls Tryd.prog 10 #[.int .i64 n] w fun e w' => e = .returned (.tuple #[zg, .int .i64 2]) ∧ Below w.heap.size w w' := by
  rcases h with h | h
  · go_enter Tryd.func10, Tryd.ntmps10
    go_wp2_with fail
    refine bodyPost_ret (v := .tuple #[zg, .int .i64 2]) (by simp [results, Tryd.results10, go_sem]) rfl ⟨rfl, ?_⟩
    repeat' (first | (with_reducible exact Below.refl _ _) | (with_reducible refine Below.setCell ?_ ?_ _) | (with_reducible refine Below.alloc ?_ ?_ _) | go_size)
  · go_enter Tryd.func10, Tryd.ntmps10
    go_wp2_with fail
    refine bodyPost_ret (v := .tuple #[zg, .int .i64 2]) (by simp [results, Tryd.results10, go_sem]) rfl ⟨rfl, ?_⟩
    repeat' (first | (with_reducible exact Below.refl _ _) | (with_reducible refine Below.setCell ?_ ?_ _) | (with_reducible refine Below.alloc ?_ ?_ _) | go_size)

theorem rcomplete_bad (n : Int) (h : n < 1 ∨ 5 < n) (w : World) :
    Calls Tryd.prog 9 #[.int .i64 n] w fun e w' => e = .returned (.tuple #[zg, .int .i64 2]) ∧ Below w.heap.size w w' := by
  rcases h with h | h
  · go_enter Tryd.func9, Tryd.ntmps9
    go_wp2_with fail
    refine bodyPost_ret (v := .tuple #[zg, .int .i64 2]) (by simp [results, Tryd.results9, go_sem]) rfl ⟨rfl, ?_⟩
    repeat' (first | (with_reducible exact Below.refl _ _) | (with_reducible refine Below.setCell ?_ ?_ _) | (with_reducible refine Below.alloc ?_ ?_ _) | go_size)
  · go_enter Tryd.func9, Tryd.ntmps9
    go_wp2_with fail
    refine bodyPost_ret (v := .tuple #[zg, .int .i64 2]) (by simp [results, Tryd.results9, go_sem]) rfl ⟨rfl, ?_⟩
    repeat' (first | (with_reducible exact Below.refl _ _) | (with_reducible refine Below.setCell ?_ ?_ _) | (with_reducible refine Below.alloc ?_ ?_ _) | go_size)

theorem rsilent_bad (n : Int) (h : n < 1 ∨ 5 < n) (w : World) :
    Calls Tryd.prog 11 #[.int .i64 n] w fun e w' => e = .returned (.tuple #[zg, .int .i64 2]) ∧ Below w.heap.size w w' := by
  rcases h with h | h
  · go_enter Tryd.func11, Tryd.ntmps11
    go_wp2_with fail
    refine bodyPost_ret (v := .tuple #[zg, .int .i64 2]) (by simp [results, Tryd.results11, go_sem]) rfl ⟨rfl, ?_⟩
    repeat' (first | (with_reducible exact Below.refl _ _) | (with_reducible refine Below.setCell ?_ ?_ _) | (with_reducible refine Below.alloc ?_ ?_ _) | go_size)
  · go_enter Tryd.func11, Tryd.ntmps11
    go_wp2_with fail
    refine bodyPost_ret (v := .tuple #[zg, .int .i64 2]) (by simp [results, Tryd.results11, go_sem]) rfl ⟨rfl, ?_⟩
    repeat' (first | (with_reducible exact Below.refl _ _) | (with_reducible refine Below.setCell ?_ ?_ _) | (with_reducible refine Below.alloc ?_ ?_ _) | go_size)

set_option maxHeartbeats 1000000 in
theorem rcomplete_ok (n : Nat) (hn : 1 ≤ n ∧ n ≤ 5) (w : World) :
    Calls Tryd.prog 9 #[.int .i64 (n : Int)] w fun e w' => e = .returned (.tuple #[gv n (cmpl n), .int .i64 0]) ∧ Below w.heap.size w w' := by
  have h1 : 1 ≤ n := hn.1
  have h5 : n ≤ 5 := hn.2
  have hp0 : 0 < 2 ^ n := Nat.pow_pos (by omega)
  have HF : Hid (∀ w, Calls Tryd.prog 40 #[.int .i64 (n : Int)] w fun e w' => e = .returned (.int .i64 ((2 ^ n - 1 : Nat) : Int)) ∧ w = w') := Lib.hid (fun w => by
    have := full_any n h5 w
    have e : ((2 ^ n : Nat) : Int) - 1 = ((2 ^ n - 1 : Nat) : Int) := by omega
    rw [e] at this
    exact this)
  clear hp0
  clear hn
  go_enter Tryd.func9, Tryd.ntmps9
  go_wp2_with fail
  obtain ⟨W, hW⟩ : ∃ W, (w.alloc (.cells #[.int .i64 0, .int .i64 0, .int .i64 0, .int .i64 0, .int .i64 0, .int .i64 0] 24)).alloc (.cells #[.int .i64 (n : Int), .int .i64 0, .int .i64 0, .int .i64 0, .int .i64 0, .int .i64 0] 24) = W := ⟨_, rfl⟩
  rw [hW]
  have XZ : Box W w.heap.size #[.int .i64 0, .int .i64 0, .int .i64 0, .int .i64 0, .int .i64 0, .int .i64 0] 24 := hW ▸ (Box.new w _ _).alloc _
  have XR : Box W (w.heap.size + 1) (gcells n (fillr (fun _ => 2 ^ n - 1) 0 0)) 24 := hW ▸ Box.at_ (by simp) _ _
  have B1 : Below w.heap.size w W := hW ▸ ((Below.refl _ _).alloc (Nat.le_refl _) _).alloc (by simp) _
  clear hW
  have HXZ := Lib.hid XZ
  have HB1 := Lib.hid B1
  clear XZ B1
  obtain ⟨R, hR⟩ : ∃ R, w.heap.size + 1 = R := ⟨_, rfl⟩
  have hz1 : w.heap.size < R := by omega
  rw [hR] at XR ⊢
  clear hR
  go_loopw [5] (fun j wr => ∃ p : Nat, p ≤ n ∧ j = .int .i64 p ∧ Below R W wr ∧ Box wr R (gcells n (fillr (fun _ => 2 ^ n - 1) p 0)) 24) (fun j _ => n - (intOf j).toNat)
  case atStart => exact ⟨0, by omega, rfl, Below.refl _ _, XR⟩
  case round =>
    obtain ⟨p, hp, rfl, hB, hX⟩ := hrel
    clear XR
    have hlR := hX.lt
    by_cases hlt : p < n
    · have hcr : wr.cell? ⟨R, 1 + p, none⟩ = some (.int .i64 0) := (hX.cell (1 + p)).trans ((gcells_get (by omega)).trans (by rw [fillr_at]; rfl))
      have hfr : wr.frozen? ⟨R, 1 + p, none⟩ = false := hX.open_ (1 + p)
      have hst := hX.set (1 + p) (.int .i64 ((2 ^ n - 1 : Nat) : Int))
      rw [gcells_set (by omega), fillr_set] at hst
      have hst2 : Box (wr.setCell ⟨R, 1 + p, none⟩ (.int .i64 ((2 ^ n - 1 : Nat) : Int))) R (gcells n (fillr (fun _ => 2 ^ n - 1) (p + 1) 0)) 24 := by rw [← fillr_next]; exact hst
      obtain ⟨v, hv⟩ : ∃ v, 2 ^ n - 1 = v := ⟨_, rfl⟩
      have hcall := HF.out
      rw [hv] at hcall
      have Hst : Hid (Box (wr.setCell ⟨R, 1 + p, none⟩ (.int .i64 ((v : Nat) : Int))) R (gcells n (fillr (fun _ => 2 ^ n - 1) (p + 1) 0)) 24) := Lib.hid (by rw [← hv]; exact hst2)
      have Hcall := Lib.hid hcall
      have HB := Lib.hid hB
      clear hX hB hst hst2 hv hcall
      go_wp2_with fail
      refine (Hcall.out _).mono ?_
      rintro e w' ⟨rfl, rfl⟩
      go_wp2_with fail
      exact ⟨⟨p + 1, by omega, by go_num, HB.out.setCell (Nat.le_refl _) _, Hst.out⟩, by simp [intOf]; omega⟩
    · have hpn : p = n := by omega
      subst hpn
      have hX2 : Box wr R (gcells p (cmpl p)) 24 := by
        rw [gcells_ext (g := fillr (fun _ => 2 ^ p - 1) p 0) (fun i _ => by
          unfold cmpl fillr
          by_cases h : i < p
          · rw [if_pos h, if_pos h]
          · rw [if_neg h, if_neg h]; split <;> rfl)]
        exact hX
      clear hX
      unfold gcells at hX2
      obtain ⟨⟨q0, q1, q2, q3, q4, q5⟩, _⟩ := hX2.six
      have hZ := HXZ.out.below hB hz1
      obtain ⟨⟨z0, z1, z2, z3, z4, z5⟩, zf0, zf1, zf2, zf3, zf4, zf5⟩ := hZ.six
      have hlZ := hZ.lt
      have B2 := HB1.out.trans (Joins.below_le hB (by omega))
      clear hX2 hZ hB HXZ HB1
      go_wp2_with fail
      refine bodyPost_ret (v := .tuple #[gv p (cmpl p), .int .i64 0]) (by simp [results, Tryd.results9, go_sem, z0, z1, z2, z3, z4, z5]) rfl ⟨rfl, ?_⟩
      repeat' (first | (with_reducible exact B2) | (with_reducible refine Below.setCell ?_ ?_ _) | go_size)

set_option maxHeartbeats 1000000 in
theorem rsilent_ok (n : Nat) (hn : 1 ≤ n ∧ n ≤ 5) (w : World) :
    Calls Tryd.prog 11 #[.int .i64 (n : Int)] w fun e w' => e = .returned (.tuple #[gv n (sil n), .int .i64 0]) ∧ Below w.heap.size w w' := by
  have h1 : 1 ≤ n := hn.1
  have h5 : n ≤ 5 := hn.2
  clear hn
  go_enter Tryd.func11, Tryd.ntmps11
  go_wp2_with fail
  obtain ⟨W, hW⟩ : ∃ W, (w.alloc (.cells #[.int .i64 0, .int .i64 0, .int .i64 0, .int .i64 0, .int .i64 0, .int .i64 0] 24)).alloc (.cells #[.int .i64 (n : Int), .int .i64 0, .int .i64 0, .int .i64 0, .int .i64 0, .int .i64 0] 24) = W := ⟨_, rfl⟩
  rw [hW]
  have XZ : Box W w.heap.size #[.int .i64 0, .int .i64 0, .int .i64 0, .int .i64 0, .int .i64 0, .int .i64 0] 24 := hW ▸ (Box.new w _ _).alloc _
  have XR : Box W (w.heap.size + 1) (gcells n (fillr (fun i => 2 ^ i) 0 0)) 24 := hW ▸ Box.at_ (by simp) _ _
  have B1 : Below w.heap.size w W := hW ▸ ((Below.refl _ _).alloc (Nat.le_refl _) _).alloc (by simp) _
  clear hW
  have HXZ := Lib.hid XZ
  have HB1 := Lib.hid B1
  clear XZ B1
  obtain ⟨R, hR⟩ : ∃ R, w.heap.size + 1 = R := ⟨_, rfl⟩
  have hz1 : w.heap.size < R := by omega
  rw [hR] at XR ⊢
  clear hR
  go_loopw [5] (fun j wr => ∃ p : Nat, p ≤ n ∧ j = .int .i64 p ∧ Below R W wr ∧ Box wr R (gcells n (fillr (fun i => 2 ^ i) p 0)) 24) (fun j _ => n - (intOf j).toNat)
  case atStart => exact ⟨0, by omega, rfl, Below.refl _ _, XR⟩
  case round =>
    obtain ⟨p, hp, rfl, hB, hX⟩ := hrel
    clear XR
    have hlR := hX.lt
    by_cases hlt : p < n
    · have hcr : wr.cell? ⟨R, 1 + p, none⟩ = some (.int .i64 0) := (hX.cell (1 + p)).trans ((gcells_get (by omega)).trans (by rw [fillr_at]; rfl))
      have hfr : wr.frozen? ⟨R, 1 + p, none⟩ = false := hX.open_ (1 + p)
      have hst := hX.set (1 + p) (.int .i64 ((2 ^ p : Nat) : Int))
      rw [gcells_set (by omega), fillr_set] at hst
      have hst2 : Box (wr.setCell ⟨R, 1 + p, none⟩ (.int .i64 ((2 ^ p : Nat) : Int))) R (gcells n (fillr (fun i => 2 ^ i) (p + 1) 0)) 24 := by rw [← fillr_next]; exact hst
      have Hst := Lib.hid hst2
      have HB := Lib.hid hB
      clear hX hB hst hst2
      obtain rfl | rfl | rfl | rfl | rfl : p = 0 ∨ p = 1 ∨ p = 2 ∨ p = 3 ∨ p = 4 := by omega
      all_goals
        go_wp2_with fail
        refine ⟨⟨_, ?_, ?_, HB.out.setCell (Nat.le_refl _) _, Hst.out⟩, ?_⟩
        · omega
        · rfl
        · simp [intOf]; omega
    · have hpn : p = n := by omega
      subst hpn
      have hX2 : Box wr R (gcells p (sil p)) 24 := by
        rw [gcells_ext (g := fillr (fun i => 2 ^ i) p 0) (fun i _ => by
          unfold sil fillr
          by_cases h : i < p
          · rw [if_pos h, if_pos h]
          · rw [if_neg h, if_neg h]; split <;> rfl)]
        exact hX
      clear hX
      unfold gcells at hX2
      obtain ⟨⟨q0, q1, q2, q3, q4, q5⟩, _⟩ := hX2.six
      have hZ := HXZ.out.below hB hz1
      obtain ⟨⟨z0, z1, z2, z3, z4, z5⟩, zf0, zf1, zf2, zf3, zf4, zf5⟩ := hZ.six
      have hlZ := hZ.lt
      have B2 := HB1.out.trans (Joins.below_le hB (by omega))
      clear hX2 hZ hB HXZ HB1
      go_wp2_with fail
      refine bodyPost_ret (v := .tuple #[gv p (sil p), .int .i64 0]) (by simp [results, Tryd.results11, go_sem, z0, z1, z2, z3, z4, z5]) rfl ⟨rfl, ?_⟩
      repeat' (first | (with_reducible exact B2) | (with_reducible refine Below.setCell ?_ ?_ _) | go_size)

theorem alike_complete (n : Int) : Alike 8 9 #[.int .i64 n] := by
  by_cases h : n < 1 ∨ 5 < n
  · exact ⟨0, fun _ => 0, 2, fun w => complete_bad n h w, fun w => rcomplete_bad n h w⟩
  · obtain ⟨N, rfl⟩ := Int.eq_ofNat_of_zero_le (show 0 ≤ n by omega)
    exact ⟨N, _, 0, fun w => complete_ok N (by omega) w, fun w => rcomplete_ok N (by omega) w⟩
theorem alike_silent (n : Int) : Alike 10 11 #[.int .i64 n] := by
  by_cases h : n < 1 ∨ 5 < n
  · exact ⟨0, fun _ => 0, 2, fun w => silent_bad n h w, fun w => rsilent_bad n h w⟩
  · obtain ⟨N, rfl⟩ := Int.eq_ofNat_of_zero_le (show 0 ≤ n by omega)
    exact ⟨N, _, 0, fun w => silent_ok N (by omega) w, fun w => rsilent_ok N (by omega) w⟩
end Go.Proofs.YtlkhbfaoebgmkaaDoor
