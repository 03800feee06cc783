/- graph.Check on whatever integers. -/
import Derived.Test.YtacnhklhimogkaaDoorGrB
import Derived.Test.YtacnhklhimogkaaDoorGrC
import Derived.Test.YtacnhklhimogkaaDoorGrK
import Derived.Test.YtacnhklhimogkaaDoorGrM
import Derived.LoopTactic
import Derived.WalkKit
import Derived.WalkSpells
import Derived.WalkLawsBesides
import Derived.Handy
import Derived.Deep.QuietTactic
import Derived.BigQuiet
import Derived.Outline
import Derived.Laws.BitsAllLaws
import Derived.IntWalk
import Derived.Lib.SmallJoins
import Derived.Lib.Hide
namespace Go.Proofs.YtacnhklhimogkaaDoor
set_option linter.unusedVariables false
set_option linter.unusedSimpArgs false
open Go.RowKit

theorem pcheck_neg (n : Nat) (hn : 1 ≤ n ∧ n ≤ 5) (v : Int) (hv : v < 0) (w : World) :
    Calls Tryd.prog 42 #[.int .i64 (n : Int), .int .i64 v] w fun e w' => e = .returned (.int .i64 2) ∧ w = w' := by
  obtain rfl | rfl | rfl | rfl | rfl : n = 1 ∨ n = 2 ∨ n = 3 ∨ n = 4 ∨ n = 5 := by omega
  all_goals
    go_enter Tryd.func42, Tryd.ntmps42
    go_wp2
    go_ret
    exact ⟨rfl, rfl⟩
theorem pcheck_big (n : Nat) (hn : 1 ≤ n ∧ n ≤ 5) (y : Nat) (hv : 2 ^ n ≤ y) (w : World) :
    Calls Tryd.prog 42 #[.int .i64 (n : Int), .int .i64 (y : Int)] w fun e w' => e = .returned (.int .i64 2) ∧ w = w' := by
  obtain rfl | rfl | rfl | rfl | rfl : n = 1 ∨ n = 2 ∨ n = 3 ∨ n = 4 ∨ n = 5 := by omega
  all_goals
    simp only [Nat.reducePow] at hv
    go_enter Tryd.func42, Tryd.ntmps42
    go_wp2
    go_ret
    exact ⟨rfl, rfl⟩

theorem idx_any (x : Nat → Int) (k : Nat) (hk : k < 5) (w : World) : (Instr.index 22 (.agg #[.int .i64 (x 0), .int .i64 (x 1), .int .i64 (x 2), .int .i64 (x 3), .int .i64 (x 4)]) (.int .i64 (k : Int))).run Tryd.prog w = .ok (.int .i64 (x k)) w := by
  obtain rfl | rfl | rfl | rfl | rfl : k = 0 ∨ k = 1 ∨ k = 2 ∨ k = 3 ∨ k = 4 := by omega
  · exact idx0 _ _ _ _ _ w
  · exact idx1 _ _ _ _ _ w
  · exact idx2 _ _ _ _ _ w
  · exact idx3 _ _ _ _ _ w
  · exact idx4 _ _ _ _ _ w

theorem bit_is0 (y q : Nat) (hy : y < 4294967296) (h : y / q % 2 = 1) : (bits .and .i64 ((y : Int) / (q : Int)) 1 == 0) = false := by
  rw [← Int.natCast_ediv, i64_and_one _ (Nat.lt_of_le_of_lt (Nat.div_le_self _ _) hy), h]
  rfl
theorem bit_not0 (y q : Nat) (hy : y < 4294967296) (h : ¬ y / q % 2 = 1) : (bits .and .i64 ((y : Int) / (q : Int)) 1 == 0) = true := by
  have h0 : y / q % 2 = 0 := by omega
  rw [← Int.natCast_ediv, i64_and_one _ (Nat.lt_of_le_of_lt (Nat.div_le_self _ _) hy), h0]
  rfl

set_option maxHeartbeats 1000000 in
theorem gcheck_any (n : Int) (x : Nat → Int) (w : World) (hb : ∀ p, p < 5 → -9223372036854775808 ≤ x p ∧ x p ≤ 9223372036854775807) :
    Calls Tryd.prog 12 #[.agg #[.int .i64 n, .int .i64 (x 0), .int .i64 (x 1), .int .i64 (x 2), .int .i64 (x 3), .int .i64 (x 4)]] w
      fun e w' => ∃ r : Int, e = .returned (.int .i64 r) ∧ (r = 0 ↔ WFI n x) ∧ (Out n x → r = 2) ∧ (¬ WFI n x → ¬ Out n x → r = 3) ∧ Below w.heap.size w w' := by
  by_cases h1 : n < 1
  · go_enter Tryd.func12, Tryd.ntmps12
    go_wp2_with fail
    go_ret
    refine ⟨2, rfl, ⟨fun h => by omega, fun h => by have := h.1; omega⟩, fun _ => rfl, fun _ h => absurd (.inl (by omega)) h, (Below.refl _ _).alloc (Nat.le_refl _) _⟩
  by_cases h5 : 5 < n
  · go_enter Tryd.func12, Tryd.ntmps12
    go_wp2_with fail
    go_ret
    refine ⟨2, rfl, ⟨fun h => by omega, fun h => by have := h.1; omega⟩, fun _ => rfl, fun _ h => absurd (.inl (by omega)) h, (Below.refl _ _).alloc (Nat.le_refl _) _⟩
  obtain ⟨N, rfl⟩ := Int.eq_ofNat_of_zero_le (show 0 ≤ n by omega)
  have hn1 : 1 ≤ N := by omega
  have hn5 : N ≤ 5 := by omega
  clear h1 h5
  obtain ⟨q, hq⟩ : ∃ q, 2 ^ N = q := ⟨_, rfl⟩
  have hq0 : 0 < q := hq ▸ Nat.pow_pos (by omega)
  have hq32 : q ≤ 32 := hq ▸ Nat.pow_le_pow_right (n := 2) (by omega) hn5
  have Hq := Lib.hid hq
  have Hb := Lib.hid hb
  clear hq hb
  go_enter Tryd.func12, Tryd.ntmps12
  go_wp2_with fail
  obtain ⟨W, hW⟩ : ∃ W, w.alloc (.cells #[.int .i64 (N : Int), .int .i64 (x 0), .int .i64 (x 1), .int .i64 (x 2), .int .i64 (x 3), .int .i64 (x 4)] 24) = W := ⟨_, rfl⟩
  rw [hW]
  have hcn : W.cell? ⟨w.heap.size, 0, none⟩ = some (.int .i64 (N : Int)) := by rw [← hW]; exact World.cell?_alloc_mark w _ _ (0, 0) 0
  have hB : Below w.heap.size w W := by rw [← hW]; exact (Below.refl _ _).alloc (Nat.le_refl _) _
  clear hW
  go_loop [15] (fun i => ∃ k : Nat, k ≤ 5 ∧ i = .int .i64 k ∧ ∀ p, p < k → okRow N p (x p)) (fun i => 5 - (intOf i).toNat)
  case atStart => exact ⟨0, by omega, rfl, fun p hp => by omega⟩
  case round =>
    obtain ⟨k, hk5, rfl, hall⟩ := hrel
    have Hall := Lib.hid hall
    clear hall
    by_cases hk : k < 5
    · have hidx := fun w => idx_any x k hk w
      have hvb := Hb.out k hk
      obtain ⟨v, hv⟩ : ∃ v, x k = v := ⟨_, rfl⟩
      rw [hv] at hidx hvb
      have Hv := Lib.hid hv
      clear hv
      by_cases hkn : k < N
      · by_cases hv0 : v < 0
        · go_wp2_with fail
          refine (pcheck_neg N ⟨hn1, hn5⟩ v hv0 _).mono ?_
          rintro e w' ⟨rfl, rfl⟩
          go_wp2_with fail
          go_ret
          exact ⟨2, rfl, ⟨fun h => by omega, fun h => absurd h (not_wfi hk Hv.out (bad_neg hkn hv0))⟩, fun _ => rfl, fun _ h => absurd (out_at hk Hv.out Hall.out hkn (.inl hv0)) h, hB⟩
        · obtain ⟨y, rfl⟩ := Int.eq_ofNat_of_zero_le (show 0 ≤ v by omega)
          by_cases hvq : y < q
          · by_cases hbit : y / 2 ^ k % 2 = 1
            · have hb2 : (bits .and .i64 ((y : Int) / ((2 ^ k : Nat) : Int)) 1 == 0) = false := bit_is0 y (2 ^ k) (by omega) hbit
              have hcall := Lib.hid (fun w => pcheck_any N ⟨hn1, hn5⟩ y (by rw [Hq.out]; exact hvq) w)
              have Hbit := Lib.hid hbit
              clear hbit
              go_wp2_with fail
              refine (hcall.out _).mono ?_
              rintro e w' ⟨rfl, rfl⟩
              have Hrel : Hid (∀ p, p < k + 1 → okRow N p (x p)) := Lib.hid (fun p hp => by
                rcases Nat.lt_or_eq_of_le (Nat.lt_succ_iff.1 hp) with h | h
                · exact Hall.out p h
                · rw [h, Hv.out]; exact ok_in hkn Hq.out hvq Hbit.out)
              clear Hall Hbit Hv hcall
              obtain rfl | rfl | rfl | rfl | rfl : k = 0 ∨ k = 1 ∨ k = 2 ∨ k = 3 ∨ k = 4 := by omega
              all_goals
                simp only [Nat.reducePow, Nat.reduceAdd, Int.cast_ofNat_Int, Int.ediv_one] at hb2
                go_wp2_with fail
                go_round
                case rel =>
                  refine ⟨_, ?_, ?_, Hrel.out⟩
                  · omega
                  · rfl
                case measure => simp [intOf]
            · have hb2 : (bits .and .i64 ((y : Int) / ((2 ^ k : Nat) : Int)) 1 == 0) = true := bit_not0 y (2 ^ k) (by omega) hbit
              have hcall := Lib.hid (fun w => pcheck_any N ⟨hn1, hn5⟩ y (by rw [Hq.out]; exact hvq) w)
              have Hres : Hid (¬ WFI (N : Int) x ∧ ¬ Out (N : Int) x) := Lib.hid ⟨not_wfi hk Hv.out (bad_bit hkn hbit), not_out ⟨hn1, hn5⟩ Hv.out Hall.out (bad_bit hkn hbit) (fun _ => by rw [Hq.out]; omega)⟩
              clear hbit Hall Hv
              go_wp2_with fail
              refine (hcall.out _).mono ?_
              rintro e w' ⟨rfl, rfl⟩
              clear hcall
              obtain rfl | rfl | rfl | rfl | rfl : k = 0 ∨ k = 1 ∨ k = 2 ∨ k = 3 ∨ k = 4 := by omega
              all_goals
                simp only [Nat.reducePow, Nat.reduceAdd, Int.cast_ofNat_Int, Int.ediv_one] at hb2
                go_wp2_with fail
                go_ret
                exact ⟨3, rfl, ⟨fun h => by omega, fun h => absurd h Hres.out.1⟩, fun h => absurd h Hres.out.2, fun _ _ => rfl, hB⟩
          · go_wp2_with fail
            refine (pcheck_big N ⟨hn1, hn5⟩ y (by rw [Hq.out]; omega) _).mono ?_
            rintro e w' ⟨rfl, rfl⟩
            go_wp2_with fail
            go_ret
            exact ⟨2, rfl, ⟨fun h => by omega, fun h => absurd h (not_wfi hk Hv.out (bad_big hkn Hq.out (by omega)))⟩, fun _ => rfl, fun _ h => absurd (out_at hk Hv.out Hall.out hkn (.inr (by rw [Hq.out]; omega))) h, hB⟩
      · by_cases hv0 : v = 0
        · subst hv0
          go_wp2_with fail
          go_round
          case rel => exact ⟨k + 1, by omega, by go_num, fun p hp => by
            rcases Nat.lt_or_eq_of_le (Nat.lt_succ_iff.1 hp) with h | h
            · exact Hall.out p h
            · rw [h, Hv.out]; exact ok_out hkn⟩
          case measure => simp [intOf]; omega
        · have hv1 : (v != 0) = true := by simpa using hv0
          have Hv0 := Lib.hid hv0
          clear hv0
          go_wp2_with fail
          go_ret
          exact ⟨3, rfl, ⟨fun h => by omega, fun h => absurd h (not_wfi hk Hv.out (bad_zero hkn Hv0.out))⟩, fun h => absurd h (not_out ⟨hn1, hn5⟩ Hv.out Hall.out (bad_zero hkn Hv0.out) (fun h => absurd h hkn)), fun _ _ => rfl, hB⟩
    · have hk' : k = 5 := by omega
      subst hk'
      go_wp2_with fail
      go_ret
      have hw : WFI (N : Int) x := ⟨by omega, fun p hp => Hall.out p hp⟩
      exact ⟨0, rfl, ⟨fun _ => hw, fun _ => rfl⟩, fun h => absurd h (wfi_not_out hw), fun h => absurd hw h, hB⟩

/-- The number of a graph's error. -/
noncomputable def gcode (n : Int) (x : Nat → Int) : Int := open Classical in if WFI n x then 0 else if Out n x then 2 else 3
theorem gcode_eq {n : Int} {x : Nat → Int} {r : Int} (h0 : r = 0 ↔ WFI n x) (h2 : Out n x → r = 2) (h3 : ¬ WFI n x → ¬ Out n x → r = 3) : r = gcode n x := by
  unfold gcode
  by_cases hw : WFI n x
  · rw [if_pos hw]; exact h0.2 hw
  · rw [if_neg hw]
    by_cases ho : Out n x
    · rw [if_pos ho]; exact h2 ho
    · rw [if_neg ho]; exact h3 hw ho
theorem gcode_cases (n : Int) (x : Nat → Int) : gcode n x = 0 ∨ gcode n x = 2 ∨ gcode n x = 3 := by
  unfold gcode
  by_cases hw : WFI n x
  · rw [if_pos hw]; exact .inl rfl
  · rw [if_neg hw]
    by_cases ho : Out n x
    · rw [if_pos ho]; exact .inr (.inl rfl)
    · rw [if_neg ho]; exact .inr (.inr rfl)
theorem gcode_zero {n : Int} {x : Nat → Int} (h : gcode n x = 0) : WFI n x := by
  unfold gcode at h
  by_cases hw : WFI n x
  · exact hw
  · rw [if_neg hw] at h
    by_cases ho : Out n x
    · rw [if_pos ho] at h; omega
    · rw [if_neg ho] at h; omega

theorem gcheck_code (n : Int) (x : Nat → Int) (hb : ∀ p, p < 5 → -9223372036854775808 ≤ x p ∧ x p ≤ 9223372036854775807) (w : World) :
    Calls Tryd.prog 12 #[.agg #[.int .i64 n, .int .i64 (x 0), .int .i64 (x 1), .int .i64 (x 2), .int .i64 (x 3), .int .i64 (x 4)]] w fun e w' => e = .returned (.int .i64 (gcode n x)) ∧ Below w.heap.size w w' :=
  (gcheck_any n x w hb).mono fun e w' ⟨r, he, h0, h2, h3, hB⟩ => ⟨by rw [he, gcode_eq h0 h2 h3], hB⟩
theorem rcheck_code (n : Int) (x : Nat → Int) (hb : ∀ p, p < 5 → -9223372036854775808 ≤ x p ∧ x p ≤ 9223372036854775807) (w : World) :
    Calls Tryd.prog 13 #[.agg #[.int .i64 n, .int .i64 (x 0), .int .i64 (x 1), .int .i64 (x 2), .int .i64 (x 3), .int .i64 (x 4)]] w fun e w' => e = .returned (.int .i64 (gcode n x)) ∧ Below w.heap.size w w' :=
  (rcheck_any n x w hb).mono fun e w' ⟨r, he, h0, h2, h3, hB⟩ => ⟨by rw [he, gcode_eq h0 h2 h3], hB⟩
end Go.Proofs.YtacnhklhimogkaaDoor
