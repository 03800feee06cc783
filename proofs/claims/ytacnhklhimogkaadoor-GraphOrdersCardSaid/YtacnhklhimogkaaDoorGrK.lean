/- The specification's check of a graph: for whatever numbers it returns 0 exactly if the graph is well-formed. -/
import Derived.Test.YtacnhklhimogkaaDoorGrB
import Derived.Test.YtacnhklhimogkaaDoorGrM
import Derived.Test.YtacnhklhimogkaaDoorGrC
import Derived.LoopTactic
import Derived.WalkKit
import Derived.WalkSpells
import Derived.WalkLawsBesides
import Derived.Handy
import Derived.Deep.QuietTactic
import Derived.BigQuiet
import Derived.Outline
import Derived.Laws.BitsAllLaws
import Derived.IntWalk
import Derived.Lib.SmallJoins
import Derived.Lib.Hide
namespace Go.Proofs.YtacnhklhimogkaaDoor
set_option linter.unusedVariables false
set_option linter.unusedSimpArgs false
open Go.RowKit




/-- What is asked of the row of process p. -/
def okRow (N p : Nat) (v : Int) : Prop := if p < N then 0 ≤ v ∧ v < ((2 ^ N : Nat) : Int) ∧ v.toNat / 2 ^ p % 2 = 1 else v = 0

def WFI (n : Int) (x : Nat → Int) : Prop := (1 ≤ n ∧ n ≤ 5) ∧ ∀ p, p < 5 → okRow n.toNat p (x p)

/-- The first number that is wrong is out of its range. -/
def Out (n : Int) (x : Nat → Int) : Prop := (n < 1 ∨ 5 < n) ∨ ∃ k, k < 5 ∧ (∀ p, p < k → okRow n.toNat p (x p)) ∧ k < n.toNat ∧ (x k < 0 ∨ ((2 ^ n.toNat : Nat) : Int) ≤ x k)

theorem out_at {N k : Nat} {x : Nat → Int} {v : Int} (hk : k < 5) (hv : x k = v) (hall : ∀ p, p < k → okRow N p (x p)) (hkn : k < N) (h : v < 0 ∨ ((2 ^ N : Nat) : Int) ≤ v) : Out (N : Int) x :=
  .inr ⟨k, hk, hall, hkn, by rw [hv]; exact h⟩
theorem not_out {N k : Nat} {x : Nat → Int} {v : Int} (hn : 1 ≤ N ∧ N ≤ 5) (hv : x k = v) (hall : ∀ p, p < k → okRow N p (x p)) (hbad : ¬ okRow N k v) (hin : k < N → 0 ≤ v ∧ v < ((2 ^ N : Nat) : Int)) : ¬ Out (N : Int) x := by
  rintro (h | ⟨j, hj, hall', hjn, h⟩)
  · omega
  · simp only [Int.toNat_natCast] at h hall' hjn
    rcases Nat.lt_trichotomy j k with hlt | rfl | hgt
    · have := hall j hlt
      unfold okRow at this
      rw [if_pos hjn] at this
      omega
    · rw [hv] at h
      have := hin hjn
      omega
    · exact hbad (by have := hall' k hgt; rw [hv] at this; exact this)
theorem wfi_not_out {n : Int} {x : Nat → Int} (h : WFI n x) : ¬ Out n x := by
  rintro (h1 | ⟨j, hj, _, hjn, h2⟩)
  · have := h.1; omega
  · have := h.2 j hj
    unfold okRow at this
    rw [if_pos hjn] at this
    omega

theorem not_wfi {N : Nat} {x : Nat → Int} {k : Nat} {v : Int} (hk : k < 5) (hv : x k = v) (h : ¬ okRow N k v) : ¬ WFI (N : Int) x := fun h' => h (by rw [← hv]; exact h'.2 k hk)
theorem bad_neg {N k : Nat} {v : Int} (hk : k < N) (h : v < 0) : ¬ okRow N k v := by unfold okRow; rw [if_pos hk]; intro h'; omega
theorem bad_big {N k q : Nat} {v : Int} (hk : k < N) (hq : 2 ^ N = q) (h : (q : Int) ≤ v) : ¬ okRow N k v := by unfold okRow; rw [if_pos hk, hq]; intro h'; omega
theorem bad_bit {N k y : Nat} (hk : k < N) (h : ¬ y / 2 ^ k % 2 = 1) : ¬ okRow N k (y : Int) := by unfold okRow; rw [if_pos hk]; intro h'; exact h (by simpa using h'.2.2)
theorem bad_zero {N k : Nat} {v : Int} (hk : ¬ k < N) (h : v ≠ 0) : ¬ okRow N k v := by unfold okRow; rw [if_neg hk]; exact h
theorem ok_in {N k q y : Nat} (hk : k < N) (hq : 2 ^ N = q) (h : y < q) (hb : y / 2 ^ k % 2 = 1) : okRow N k (y : Int) := by unfold okRow; rw [if_pos hk, hq]; exact ⟨by omega, by omega, by simpa using hb⟩
theorem ok_out {N k : Nat} (hk : ¬ k < N) : okRow N k 0 := by unfold okRow; rw [if_neg hk]

set_option maxHeartbeats 400000 in
theorem rcheck_any (n : Int) (x : Nat → Int) (w : World) (hb : ∀ p, p < 5 → -9223372036854775808 ≤ x p ∧ x p ≤ 9223372036854775807) :
    Calls Tryd.prog 13 #[.agg #[.int .i64 n, .int .i64 (x 0), .int .i64 (x 1), .int .i64 (x 2), .int .i64 (x 3), .int .i64 (x 4)]] w
      fun e w' => ∃ r : Int, e = .returned (.int .i64 r) ∧ (r = 0 ↔ WFI n x) ∧ (Out n x → r = 2) ∧ (¬ WFI n x → ¬ Out n x → r = 3) ∧ Below w.heap.size w w' := by
  by_cases h1 : n < 1
  · go_enter Tryd.func13, Tryd.ntmps13
    go_wp2_with fail
    go_ret
    refine ⟨2, rfl, ⟨fun h => by omega, fun h => by have := h.1; omega⟩, fun _ => rfl, fun _ h => absurd (.inl (by omega)) h, (Below.refl _ _).alloc (Nat.le_refl _) _⟩
  by_cases h5 : 5 < n
  · go_enter Tryd.func13, Tryd.ntmps13
    go_wp2_with fail
    go_ret
    refine ⟨2, rfl, ⟨fun h => by omega, fun h => by have := h.1; omega⟩, fun _ => rfl, fun _ h => absurd (.inl (by omega)) h, (Below.refl _ _).alloc (Nat.le_refl _) _⟩
  obtain ⟨N, rfl⟩ := Int.eq_ofNat_of_zero_le (show 0 ≤ n by omega)
  have hn1 : 1 ≤ N := by omega
  have hn5 : N ≤ 5 := by omega
  clear h1 h5
  obtain ⟨q, hq⟩ : ∃ q, 2 ^ N = q := ⟨_, rfl⟩
  have hfull : ∀ w, Calls Tryd.prog 40 #[.int .i64 (N : Int)] w fun e w' => e = .returned (.int .i64 ((q : Int) - 1)) ∧ w = w' := by
    intro w
    have := full_any N hn5 w
    rw [hq] at this
    exact this
  have hq0 : 0 < q := hq ▸ Nat.pow_pos (by omega)
  have hq32 : q ≤ 32 := hq ▸ Nat.pow_le_pow_right (n := 2) (by omega) hn5
  have Hq := Lib.hid hq
  have Hfull := Lib.hid hfull
  have Hb := Lib.hid hb
  clear hq hfull hb
  go_enter Tryd.func13, Tryd.ntmps13
  go_wp2_with fail
  obtain ⟨W, hW⟩ : ∃ W, w.alloc (.cells #[.int .i64 (N : Int), .int .i64 (x 0), .int .i64 (x 1), .int .i64 (x 2), .int .i64 (x 3), .int .i64 (x 4)] 24) = W := ⟨_, rfl⟩
  rw [hW]
  have hcn : W.cell? ⟨w.heap.size, 0, none⟩ = some (.int .i64 (N : Int)) := by rw [← hW]; exact World.cell?_alloc_mark w _ _ (0, 0) 0
  have hcx : ∀ p, p < 5 → W.cell? ⟨w.heap.size, 1 + p, none⟩ = some (.int .i64 (x p)) := by
    intro p hp
    rw [← hW]
    refine (World.cell?_alloc_mark w _ _ (0, 0) (1 + p)).trans ?_
    obtain rfl | rfl | rfl | rfl | rfl : p = 0 ∨ p = 1 ∨ p = 2 ∨ p = 3 ∨ p = 4 := by omega
    all_goals rfl
  have hB : Below w.heap.size w W := by rw [← hW]; exact (Below.refl _ _).alloc (Nat.le_refl _) _
  have Hcx := Lib.hid hcx
  clear hW hcx
  go_loop [3] (fun i => ∃ k : Nat, k ≤ 5 ∧ i = .int .i64 k ∧ ∀ p, p < k → okRow N p (x p)) (fun i => 5 - (intOf i).toNat)
  case atStart => exact ⟨0, by omega, rfl, fun p hp => by omega⟩
  case round =>
    obtain ⟨k, hk5, rfl, hall⟩ := hrel
    have Hall := Lib.hid hall
    clear hall
    by_cases hk : k < 5
    · have hcell := Hcx.out k hk
      have hvb := Hb.out k hk
      obtain ⟨v, hv⟩ : ∃ v, x k = v := ⟨_, rfl⟩
      rw [hv] at hcell hvb
      have Hv := Lib.hid hv
      clear hv
      by_cases hkn : k < N
      · by_cases hv0 : v < 0
        · go_wp2_with fail
          go_ret
          exact ⟨2, rfl, ⟨fun h => by omega, fun h => absurd h (not_wfi hk Hv.out (bad_neg hkn hv0))⟩, fun _ => rfl, fun _ h => absurd (out_at hk Hv.out Hall.out hkn (.inl hv0)) h, hB⟩
        · obtain ⟨y, rfl⟩ := Int.eq_ofNat_of_zero_le (show 0 ≤ v by omega)
          by_cases hvq : y < q
          · have hhas := fun w => has_any k (by omega) y (by omega) w
            by_cases hbit : y / 2 ^ k % 2 = 1
            · rw [decide_eq_true hbit] at hhas
              have Hbit := Lib.hid hbit
              have Hhas := Lib.hid hhas
              clear hbit hhas
              go_wp2_with fail
              refine (Hfull.out _).mono ?_
              rintro e w' ⟨rfl, rfl⟩
              go_wp2_with fail
              refine (Hhas.out _).mono ?_
              rintro e w' ⟨rfl, rfl⟩
              go_wp2_with fail
              go_round
              case rel => exact ⟨k + 1, by omega, by go_num, fun p hp => by
                rcases Nat.lt_or_eq_of_le (Nat.lt_succ_iff.1 hp) with h | h
                · exact Hall.out p h
                · rw [h, Hv.out]; exact ok_in hkn Hq.out hvq Hbit.out⟩
              case measure => simp [intOf]; omega
            · rw [decide_eq_false hbit] at hhas
              have Hbit := Lib.hid hbit
              have Hhas := Lib.hid hhas
              clear hbit hhas
              go_wp2_with fail
              refine (Hfull.out _).mono ?_
              rintro e w' ⟨rfl, rfl⟩
              go_wp2_with fail
              refine (Hhas.out _).mono ?_
              rintro e w' ⟨rfl, rfl⟩
              go_wp2_with fail
              go_ret
              exact ⟨3, rfl, ⟨fun h => by omega, fun h => absurd h (not_wfi hk Hv.out (bad_bit hkn Hbit.out))⟩, fun h => absurd h (not_out ⟨hn1, hn5⟩ Hv.out Hall.out (bad_bit hkn Hbit.out) (fun _ => by rw [Hq.out]; omega)), fun _ _ => rfl, hB⟩
          · go_wp2_with fail
            refine (Hfull.out _).mono ?_
            rintro e w' ⟨rfl, rfl⟩
            go_wp2_with fail
            go_ret
            exact ⟨2, rfl, ⟨fun h => by omega, fun h => absurd h (not_wfi hk Hv.out (bad_big hkn Hq.out (by omega)))⟩, fun _ => rfl, fun _ h => absurd (out_at hk Hv.out Hall.out hkn (.inr (by rw [Hq.out]; omega))) h, hB⟩
      · by_cases hv0 : v = 0
        · subst hv0
          go_wp2_with fail
          go_round
          case rel => exact ⟨k + 1, by omega, by go_num, fun p hp => by
            rcases Nat.lt_or_eq_of_le (Nat.lt_succ_iff.1 hp) with h | h
            · exact Hall.out p h
            · rw [h, Hv.out]; exact ok_out hkn⟩
          case measure => simp [intOf]; omega
        · have hv1 : (v != 0) = true := by simpa using hv0
          have Hv0 := Lib.hid hv0
          clear hv0
          go_wp2_with fail
          go_ret
          exact ⟨3, rfl, ⟨fun h => by omega, fun h => absurd h (not_wfi hk Hv.out (bad_zero hkn Hv0.out))⟩, fun h => absurd h (not_out ⟨hn1, hn5⟩ Hv.out Hall.out (bad_zero hkn Hv0.out) (fun h => absurd h hkn)), fun _ _ => rfl, hB⟩
    · have hk' : k = 5 := by omega
      subst hk'
      go_wp2_with fail
      go_ret
      have hw : WFI (N : Int) x := ⟨by omega, fun p hp => Hall.out p hp⟩
      exact ⟨0, rfl, ⟨fun _ => hw, fun _ => rfl⟩, fun h => absurd h (wfi_not_out hw), fun h => absurd hw h, hB⟩
end Go.Proofs.YtacnhklhimogkaaDoor
