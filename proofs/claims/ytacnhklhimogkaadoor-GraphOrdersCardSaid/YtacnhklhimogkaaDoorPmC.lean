/- The image of a set under a permutation, and the kernel of a graph. -/
import Derived.Test.YtacnhklhimogkaaDoorT
import Derived.Test.YtacnhklhimogkaaDoorGrB
import Derived.Test.YtacnhklhimogkaaDoorGrA
import Derived.Test.YtacnhklhimogkaaDoorGrC
import Derived.Test.YtacnhklhimogkaaDoorGrD
import Derived.Test.YtacnhklhimogkaaDoorGrE
import Derived.Test.YtacnhklhimogkaaDoorPmB
import Derived.LoopTactic
import Derived.Deep.RegionWith
import Derived.Test.YtacnhklhimogkaaDoorGrM
import Derived.WalkKit
import Derived.WalkSpells
import Derived.WalkLawsBesides
import Derived.Handy
import Derived.Deep.QuietTactic
import Derived.BigQuiet
import Derived.Outline
import Derived.Laws.BitsAllLaws
import Derived.IntWalk
import Derived.Lib.SmallJoins
import Derived.Lib.Hide
namespace Go.Proofs.YtacnhklhimogkaaDoor
set_option linter.unusedVariables false
set_option linter.unusedSimpArgs false
open Go.RowKit







theorem img_in {f : Nat → Nat} {s m n : Nat} (hn : n ≤ 5) (hf : ∀ p, p < n → f p < n) (hm : m < n) : bits .or .i64 ((img f s m : Nat) : Int) ((s / 2 ^ m % 2 * 2 ^ f m : Nat) : Int) = ((img f s (m + 1) : Nat) : Int) := by
  have h1 := pow_small hn (img_lt (n := n) s m (fun p hp => hf p (by omega)))
  have h2 : (2 : Nat) ^ f m < 2 ^ n := Nat.pow_lt_pow_right (by omega) (hf m hm)
  have h3 := pow_small hn h2
  have h4 : s / 2 ^ m % 2 < 2 := Nat.mod_lt _ (by omega)
  have h5 : s / 2 ^ m % 2 * 2 ^ f m < 4294967296 := by
    obtain h0 | h0 : s / 2 ^ m % 2 = 0 ∨ s / 2 ^ m % 2 = 1 := by omega
    · rw [h0]; omega
    · rw [h0]; omega
  rw [i64_or_nat _ _ h1 h5]
  rfl

theorem and_is (y q t : Nat) (hy : y < 4294967296) (h : y / q % 2 = t) : bits .and .i64 ((y : Int) / (q : Int)) 1 = (t : Int) := by
  rw [← Int.natCast_ediv, i64_and_one _ (Nat.lt_of_le_of_lt (Nat.div_le_self _ _) hy), h]

set_option maxHeartbeats 2000000 in
theorem set_ok (n cap b off s : Nat) (f : Nat → Nat) (h1 : 1 ≤ n) (h5 : n ≤ 5) (hc : n ≤ cap) (hf : Perm n f) (hs : s < 2 ^ n) (w : World) (hA : Arr w b off n f) :
    Calls Tryd.prog 65 #[.slice (some ⟨b, off, none⟩) n cap, .int .i64 (s : Int)] w fun e w' => e = .returned (.tuple #[.int .i64 ((img f s n : Nat) : Int), .int .i64 0]) ∧ w = w' := by
  have hs32 := pow_small h5 hs
  have HA := Lib.hid hA
  have Hf := Lib.hid hf
  have Hs := Lib.hid hs
  obtain ⟨q, hq⟩ : ∃ q, 2 ^ n = q := ⟨_, rfl⟩
  have hsq : s < q := by rw [← hq]; exact hs
  have hsw : (s : Int) < wrap64 (2 ^ n) := by
    have e : ((2 : Int) ^ n) = ((2 ^ n : Nat) : Int) := by simp
    have h32 : 2 ^ n ≤ 32 := Nat.pow_le_pow_right (n := 2) (by omega) h5
    rw [e, IntWalk.wrap64_in _ (by omega)]
    omega
  have Hq := Lib.hid hq
  clear hA hf hs hq
  go_enter Tryd.func65, Tryd.ntmps65
  go_wp2_with fail
  refine (pchk_ok n cap b off f h1 h5 hc Hf.out _ HA.out).mono ?_
  rintro e w' ⟨rfl, rfl⟩
  go_wp2_with fail
  go_loop [7, 26] (fun c j => ∃ k : Nat, k ≤ n ∧ j = .int .i64 k ∧ c = .int .i64 ((img f s k : Nat) : Int)) (fun _ j => n - (intOf j).toNat)
  case atStart => exact ⟨0, by omega, rfl, rfl⟩
  case round =>
    obtain ⟨m, hm, rfl, rfl⟩ := hrel
    by_cases hlt : m < n
    · have hcell := HA.out.cell m hlt
      have hx := Hf.out.lt m hlt
      have hor := img_in (s := s) h5 Hf.out.lt hlt
      obtain ⟨t, ht⟩ : ∃ t, s / 2 ^ m % 2 = t := ⟨_, rfl⟩
      have hand : bits .and .i64 ((s : Int) / ((2 ^ m : Nat) : Int)) 1 = (t : Int) := and_is s (2 ^ m) t hs32 ht
      have ht2 : t < 2 := by rw [← ht]; exact Nat.mod_lt _ (by omega)
      rw [ht] at hor
      obtain ⟨v, hv⟩ : ∃ v, img f s m = v := ⟨_, rfl⟩
      obtain ⟨v', hv'⟩ : ∃ v, img f s (m + 1) = v := ⟨_, rfl⟩
      obtain ⟨x, hxx⟩ : ∃ v, f m = v := ⟨_, rfl⟩
      rw [hv, hv', hxx] at hor
      rw [hv]
      rw [hxx] at hcell hx
      have Hv := Lib.hid hv'
      clear hv hv' hxx ht
      have hx5 : x < 5 := by omega
      obtain rfl | rfl : t = 0 ∨ t = 1 := by omega
      all_goals
        obtain rfl | rfl | rfl | rfl | rfl : m = 0 ∨ m = 1 ∨ m = 2 ∨ m = 3 ∨ m = 4 := by omega
        all_goals
          obtain rfl | rfl | rfl | rfl | rfl : x = 0 ∨ x = 1 ∨ x = 2 ∨ x = 3 ∨ x = 4 := by omega
          all_goals
            simp only [Nat.reducePow, Nat.add_zero, Nat.reduceAdd, Nat.reduceMul, Nat.zero_mul, Nat.one_mul, Int.cast_ofNat_Int, Int.ediv_one, Int.ofNat_zero, Int.natCast_zero, Int.natCast_one] at hand hor hcell
            go_wp2_with fail
            first
              | exact ⟨⟨1, by omega, rfl, by rw [← Hv.out]⟩, by simp [intOf]; omega⟩
              | exact ⟨⟨2, by omega, rfl, by rw [← Hv.out]⟩, by simp [intOf]; omega⟩
              | exact ⟨⟨3, by omega, rfl, by rw [← Hv.out]⟩, by simp [intOf]; omega⟩
              | exact ⟨⟨4, by omega, rfl, by rw [← Hv.out]⟩, by simp [intOf]; omega⟩
              | exact ⟨⟨5, by omega, rfl, by rw [← Hv.out]⟩, by simp [intOf]; omega⟩
    · have hmn : m = n := by omega
      subst hmn
      go_wp2_with fail
      go_ret2
      exact ⟨rfl, rfl⟩

theorem ker_in {n m : Nat} {a : Nat → Nat} (hn : n ≤ 5) (hm : m < n) (ha : ∀ p, p < n → a p < 2 ^ n) : bits .and .i64 ((ker n a m : Nat) : Int) ((a m : Nat) : Int) = ((ker n a (m + 1) : Nat) : Int) := by
  rw [i64_and_nat _ _ (pow_small hn (ker_lt n a m)) (pow_small hn (ha m hm))]
  rfl

set_option maxHeartbeats 1000000 in
theorem kernel_ok (n : Nat) (a : Nat → Nat) (ha : WF n a) (w : World) :
    Calls Tryd.prog 52 #[gv n a] w fun e w' => e = .returned (.int .i64 ((ker n a n : Nat) : Int)) ∧ Below w.heap.size w w' := by
  have h3 : 1 ≤ n := ha.1.1
  have h4 : n ≤ 5 := ha.1.2
  have har : ∀ p, p < n → a p < 2 ^ n := fun p hp => (ha.2.1 p hp).1
  have hsl := slice_arr n ⟨h3, h4⟩ w.heap.size 1
  have h32 : 2 ^ n ≤ 32 := Nat.pow_le_pow_right (n := 2) (by omega) h4
  have hp0 : 0 < 2 ^ n := Nat.pow_pos (by omega)
  have ew : wrap64 (2 ^ n) = ((2 ^ n : Nat) : Int) := by
    have e : ((2 : Int) ^ n) = ((2 ^ n : Nat) : Int) := by simp
    rw [e, IntWalk.wrap64_in _ (by omega)]
  have l1 : 1 ≤ wrap64 (2 ^ n) := by rw [ew]; omega
  have l2 : wrap64 (2 ^ n) ≤ 32 := by rw [ew]; omega
  have hE : wrap64 (2 ^ n) - 1 = ((ker n a 0 : Nat) : Int) := by
    rw [ew]
    show ((2 ^ n : Nat) : Int) - 1 = ((2 ^ n - 1 : Nat) : Int)
    omega
  have Har := Lib.hid har
  have HE := Lib.hid hE
  clear ha har hE ew hp0 h32
  have hA : ∀ m, m < 5 → (w.alloc (.cells #[.int .i64 (n : Int), .int .i64 (a 0 : Int), .int .i64 (a 1 : Int), .int .i64 (a 2 : Int), .int .i64 (a 3 : Int), .int .i64 (a 4 : Int)] 24)).cell? ⟨w.heap.size, 1 + m, none⟩ = some (.int .i64 (a m : Int)) := fun m hm =>
    cell_row (n := n) (k := a) (fun i _ => World.cell?_alloc_mark w _ _ (0, 0) i) hm
  have HA := Lib.hid hA
  clear hA
  go_enter Tryd.func52, Tryd.ntmps52
  go_wp2_with fail
  obtain ⟨W, hW⟩ : ∃ W, w.alloc (.cells #[.int .i64 (n : Int), .int .i64 (a 0 : Int), .int .i64 (a 1 : Int), .int .i64 (a 2 : Int), .int .i64 (a 3 : Int), .int .i64 (a 4 : Int)] 24) = W := ⟨_, rfl⟩
  rw [hW] at HA ⊢
  have hB : Below w.heap.size w W := by rw [← hW]; exact (Below.refl _ _).alloc (Nat.le_refl _) _
  clear hW
  go_loop [3, 15] (fun c j => ∃ k : Nat, k ≤ n ∧ j = .int .i64 k ∧ c = .int .i64 ((ker n a k : Nat) : Int)) (fun _ j => n - (intOf j).toNat)
  case atStart => exact ⟨0, by omega, rfl, by rw [HE.out]⟩
  case round =>
    obtain ⟨m, hm, rfl, rfl⟩ := hrel
    by_cases hlt : m < n
    · have hcell := HA.out m (by omega)
      have hand := ker_in h4 hlt Har.out
      obtain ⟨v, hv⟩ : ∃ v, ker n a m = v := ⟨_, rfl⟩
      obtain ⟨v', hv'⟩ : ∃ v, ker n a (m + 1) = v := ⟨_, rfl⟩
      obtain ⟨x, hxx⟩ : ∃ v, a m = v := ⟨_, rfl⟩
      rw [hv, hv', hxx] at hand
      rw [hv]
      rw [hxx] at hcell
      have Hv := Lib.hid hv'
      clear hv hv' hxx
      go_wp2_with fail
      exact ⟨⟨m + 1, by omega, by go_num, by rw [← Hv.out]⟩, by simp [intOf]; omega⟩
    · have hmn : m = n := by omega
      subst hmn
      go_wp2_with fail
      go_ret
      exact ⟨rfl, hB⟩

set_option maxHeartbeats 400000 in
theorem Kernel_ok (n : Nat) (a : Nat → Nat) (ha : WF n a) (w : World) :
    Calls Tryd.prog 21 #[gv n a] w fun e w' => e = .returned (.tuple #[.int .i64 ((ker n a n : Nat) : Int), .int .i64 0]) ∧ Below w.heap.size w w' := by
  have Ha := Lib.hid ha
  clear ha
  go_enter Tryd.func21, Tryd.ntmps21
  go_wp2_with fail
  refine (check_ok n a Ha.out _).mono ?_
  rintro e w1 ⟨rfl, hb1⟩
  obtain ⟨hc, hf⟩ := bcell hb1
  have hz : w.heap.size < w1.heap.size := by have := hb1.size; simp at this; omega
  have B1 := fresh_below hb1
  go_wp2_with fail
  refine (kernel_ok n a Ha.out _).mono ?_
  rintro e w2 ⟨rfl, hb2⟩
  go_wp2_with fail
  go_ret2
  exact ⟨rfl, B1.trans (Joins.below_le hb2 B1.size)⟩
end Go.Proofs.YtacnhklhimogkaaDoor
