/- graph.Reverse on well-formed graphs. -/
import Derived.Test.YtacnhklhimogkaaDoorT
import Derived.Test.YtacnhklhimogkaaDoorGrB
import Derived.Test.YtacnhklhimogkaaDoorGrA
import Derived.Test.YtacnhklhimogkaaDoorGrC
import Derived.Test.YtacnhklhimogkaaDoorGrD
import Derived.Test.YtacnhklhimogkaaDoorGrE
import Derived.Test.YtacnhklhimogkaaDoorPmA
import Derived.Test.YtacnhklhimogkaaDoorPmM
import Derived.Test.YtacnhklhimogkaaDoorPmC
import Derived.LoopTactic
import Derived.Deep.RegionWith
import Derived.Test.YtacnhklhimogkaaDoorGrM
import Derived.WalkKit
import Derived.WalkSpells
import Derived.WalkLawsBesides
import Derived.Handy
import Derived.Deep.QuietTactic
import Derived.BigQuiet
import Derived.Outline
import Derived.Laws.BitsAllLaws
import Derived.IntWalk
import Derived.Lib.SmallJoins
import Derived.Lib.Hide
namespace Go.Proofs.YtacnhklhimogkaaDoor
set_option linter.unusedVariables false
set_option linter.unusedSimpArgs false
open Go.RowKit

/-- The set of the processes 0 to (q - 1) whose rows of a have the element p. -/
def rcol (a : Nat → Nat) (p : Nat) : Nat → Nat
  | 0 => 0
  | q + 1 => rcol a p q ||| (a q / 2 ^ p % 2 * 2 ^ q)

theorem bit_mul (x p q i : Nat) : (x / 2 ^ p % 2 * 2 ^ q).testBit i = true ↔ i = q ∧ x.testBit p = true := by
  rw [← tb_iff x p]
  obtain h | h : x / 2 ^ p % 2 = 0 ∨ x / 2 ^ p % 2 = 1 := by have := Nat.mod_lt (x / 2 ^ p) (show 0 < 2 by omega); omega
  · rw [h]; simp
  · rw [h, Nat.one_mul, Nat.testBit_two_pow]
    constructor
    · intro h'; exact ⟨(of_decide_eq_true h').symm, rfl⟩
    · rintro ⟨rfl, _⟩; simp

theorem tb_rcol (a : Nat → Nat) (p i : Nat) : ∀ m, (rcol a p m).testBit i = true ↔ i < m ∧ (a i).testBit p = true
  | 0 => by simp [rcol]
  | m + 1 => by
    unfold rcol
    rw [Nat.testBit_or, Bool.or_eq_true, tb_rcol a p i m, bit_mul]
    constructor
    · rintro (⟨h1, h2⟩ | ⟨rfl, h2⟩)
      · exact ⟨by omega, h2⟩
      · exact ⟨by omega, h2⟩
    · rintro ⟨h1, h2⟩
      by_cases h : i < m
      · exact .inl ⟨h, h2⟩
      · have : i = m := by omega
        subst this
        exact .inr ⟨rfl, h2⟩

theorem rcol_lt {n : Nat} (a : Nat → Nat) (p : Nat) : ∀ m, m ≤ n → rcol a p m < 2 ^ n
  | 0, _ => Nat.pow_pos (by omega)
  | m + 1, h => by
    have h1 := rcol_lt (n := n) a p m (by omega)
    unfold rcol
    refine Nat.or_lt_two_pow h1 ?_
    have h2 : a m / 2 ^ p % 2 < 2 := Nat.mod_lt _ (by omega)
    have h3 : (2 : Nat) ^ m < 2 ^ n := Nat.pow_lt_pow_right (by omega) (by omega)
    obtain h0 | h0 : a m / 2 ^ p % 2 = 0 ∨ a m / 2 ^ p % 2 = 1 := by omega
    · rw [h0]; omega
    · rw [h0]; omega

theorem rcol_in {a : Nat → Nat} {p m n : Nat} (hn : n ≤ 5) (hm : m < n) : bits .or .i64 ((rcol a p m : Nat) : Int) ((a m / 2 ^ p % 2 * 2 ^ m : Nat) : Int) = ((rcol a p (m + 1) : Nat) : Int) := by
  have h1 := pow_small hn (rcol_lt (n := n) a p m (by omega))
  have h2 : (2 : Nat) ^ m < 2 ^ n := Nat.pow_lt_pow_right (by omega) hm
  have h3 := pow_small hn h2
  have h4 : a m / 2 ^ p % 2 < 2 := Nat.mod_lt _ (by omega)
  have h5 : a m / 2 ^ p % 2 * 2 ^ m < 4294967296 := by
    obtain h0 | h0 : a m / 2 ^ p % 2 = 0 ∨ a m / 2 ^ p % 2 = 1 := by omega
    · rw [h0]; omega
    · rw [h0]; omega
  rw [i64_or_nat _ _ h1 h5]
  rfl

/-- The rows of the graph with all edges turned round. -/
def rev (n : Nat) (a : Nat → Nat) (p : Nat) : Nat := if p < n then rcol a p n else 0

theorem tb_rev {n : Nat} {a : Nat → Nat} {p i : Nat} (hp : p < n) : (rev n a p).testBit i = true ↔ i < n ∧ (a i).testBit p = true := by
  unfold rev; rw [if_pos hp]; exact tb_rcol a p i n
theorem wf_rev {n : Nat} {a : Nat → Nat} (ha : WF n a) : WF n (rev n a) :=
  ⟨ha.1, fun p hp => ⟨by unfold rev; rw [if_pos hp]; exact rcol_lt a p n (Nat.le_refl _), (tb_iff _ _).2 ((tb_rev hp).2 ⟨hp, (tb_iff _ _).1 (ha.2.1 p hp).2⟩)⟩, fun p hp _ => by unfold rev; rw [if_neg (by omega)]⟩
theorem rev_rev {n : Nat} {a : Nat → Nat} (ha : WF n a) {p : Nat} (hp : p < 5) : rev n (rev n a) p = a p :=
  wf_ext (wf_rev (wf_rev ha)) ha (fun p hp i hi => by rw [tb_rev hp, tb_rev hi]; exact ⟨fun h => h.2.2, fun h => ⟨hi, hp, h⟩⟩) hp
theorem rev_prod {n : Nat} {a b : Nat → Nat} (ha : WF n a) (hb : WF n b) {p : Nat} (hp : p < 5) : rev n (prod n a b) p = prod n (rev n b) (rev n a) p :=
  wf_ext (wf_rev (wf_prod ha hb)) (wf_prod (wf_rev hb) (wf_rev ha)) (fun p hp i hi => by
    rw [tb_rev hp, tb_prod hi, tb_prod hp]
    constructor
    · rintro ⟨_, m, hm, h1, h2⟩
      exact ⟨m, hm, (tb_rev hp).2 ⟨hm, h2⟩, (tb_rev hm).2 ⟨hi, h1⟩⟩
    · rintro ⟨m, hm, h1, h2⟩
      exact ⟨hi, m, hm, ((tb_rev hm).1 h2).2, ((tb_rev hp).1 h1).2⟩) hp

theorem pad_r {n : Nat} {a : Nat → Nat} {p : Nat} : pad n (fun p => ((rcol a p n : Nat) : Int)) p = ((rev n a p : Nat) : Int) := by
  unfold pad rev
  split <;> rfl

set_option maxHeartbeats 2000000 in
theorem reverse1_any (n : Nat) (a : Nat → Nat) (ha : WF n a) (p : Nat) (hp : p < n) (A : Nat) (w : World)
    (hn : w.cell? ⟨A, 0, none⟩ = some (.int .i64 (n : Int))) (hA : ∀ m, m < 5 → w.cell? ⟨A, 1 + m, none⟩ = some (.int .i64 (a m : Int))) :
    Calls Tryd.prog 63 #[.int .i64 (p : Int), .pointer (some ⟨A, 0, none⟩)] w
      fun e w' => e = .returned (.int .i64 ((rcol a p n : Nat) : Int)) ∧ ∃ k, w' = w.drewN k := by
  have h3 : 1 ≤ n := ha.1.1
  have h4 : n ≤ 5 := ha.1.2
  have har : ∀ p, p < n → a p < 2 ^ n := fun p hp => (ha.2.1 p hp).1
  have Har := Lib.hid har
  have HA := Lib.hid hA
  have hsl := slice_arr n ⟨h3, h4⟩ A 1
  clear ha har hA
  have hp5 : p < 5 := by omega
  go_enter Tryd.func63, Tryd.ntmps63
  go_wp2_with fail
  go_loop [4, 12] (fun s i => ∃ m : Nat, m ≤ n ∧ i = .int .i64 m ∧ s = .int .i64 ((rcol a p m : Nat) : Int)) (fun _ i => n - (intOf i).toNat)
  case atStart => exact ⟨0, by omega, rfl, rfl⟩
  case round =>
    obtain ⟨m, hm, rfl, rfl⟩ := hrel
    by_cases hlt : m < n
    · have hcell := HA.out m (by omega)
      have hor := rcol_in (a := a) (p := p) h4 hlt
      have hx32 := pow_small h4 (Har.out m hlt)
      obtain ⟨t, ht⟩ : ∃ t, a m / 2 ^ p % 2 = t := ⟨_, rfl⟩
      have hand : bits .and .i64 ((a m : Int) / ((2 ^ p : Nat) : Int)) 1 = (t : Int) := and_is (a m) (2 ^ p) t hx32 ht
      have ht2 : t < 2 := by rw [← ht]; exact Nat.mod_lt _ (by omega)
      rw [ht] at hor
      obtain ⟨v, hv⟩ : ∃ v, rcol a p m = v := ⟨_, rfl⟩
      obtain ⟨v', hv'⟩ : ∃ v, rcol a p (m + 1) = v := ⟨_, rfl⟩
      obtain ⟨x, hxx⟩ : ∃ v, a m = v := ⟨_, rfl⟩
      rw [hv, hv'] at hor
      rw [hv]
      rw [hxx] at hcell hx32 hand
      have Hv := Lib.hid hv'
      clear hv hv' hxx ht
      obtain rfl | rfl : t = 0 ∨ t = 1 := by omega
      all_goals
        obtain rfl | rfl | rfl | rfl | rfl : m = 0 ∨ m = 1 ∨ m = 2 ∨ m = 3 ∨ m = 4 := by omega
        all_goals
          obtain rfl | rfl | rfl | rfl | rfl : p = 0 ∨ p = 1 ∨ p = 2 ∨ p = 3 ∨ p = 4 := by omega
          all_goals
            simp only [Nat.reducePow, Nat.add_zero, Nat.reduceAdd, Nat.reduceMul, Nat.zero_mul, Nat.one_mul, Int.cast_ofNat_Int, Int.ediv_one, Int.ofNat_zero, Int.natCast_zero, Int.natCast_one] at hand hor hcell
            go_wp2_with fail
            first
              | exact ⟨⟨1, by omega, rfl, by rw [← Hv.out]⟩, by simp [intOf]; omega⟩
              | exact ⟨⟨2, by omega, rfl, by rw [← Hv.out]⟩, by simp [intOf]; omega⟩
              | exact ⟨⟨3, by omega, rfl, by rw [← Hv.out]⟩, by simp [intOf]; omega⟩
              | exact ⟨⟨4, by omega, rfl, by rw [← Hv.out]⟩, by simp [intOf]; omega⟩
              | exact ⟨⟨5, by omega, rfl, by rw [← Hv.out]⟩, by simp [intOf]; omega⟩
    · have hmn : m = n := by omega
      subst hmn
      go_wp2_with fail
      go_ret
      exact ⟨rfl, 0, rfl⟩

set_option maxHeartbeats 1000000 in
theorem reverse_ok (n : Nat) (a : Nat → Nat) (ha : WF n a) (w : World) :
    Calls Tryd.prog 45 #[gv n a] w fun e w' => e = .returned (.tuple #[gv n (rev n a), .int .i64 0]) ∧ Below w.heap.size w w' := by
  have Ha := Lib.hid ha
  have hn1 : 1 ≤ n := ha.1.1
  have hn5 : n ≤ 5 := ha.1.2
  clear ha
  go_enter Tryd.func45, Tryd.ntmps45
  go_wp2_with fail
  refine (check_ok n a Ha.out _).mono ?_
  rintro e w1 ⟨rfl, hb1⟩
  obtain ⟨hc, hf⟩ := bcell hb1
  have hz1 : w.heap.size + 1 < w1.heap.size := by have := hb1.size; simp at this; omega
  have hz0 : w.heap.size < w1.heap.size := by omega
  have B1 : Below w.heap.size w w1 := (((Below.refl w.heap.size w).alloc (Nat.le_refl _) _).alloc (by simp) _).trans (Joins.below_le hb1 (by simp; omega))
  go_wp2_with fail
  refine (rows_any n ⟨hn1, hn5⟩ 63 _ (fun p => ((rcol a p n : Nat) : Int)) _ (fun args w => by kernel_rfl) ?_).mono ?_
  · intro p W hp hW
    have hn : W.cell? ⟨w.heap.size, 0, none⟩ = some (.int .i64 (n : Int)) := by
      rw [hW.cell (p := ⟨w.heap.size, 0, none⟩) hz0, hc _ _ (by simp; omega)]
      exact box_cell1' w _ _ _ _ 0
    have hx : ∀ m, m < 5 → W.cell? ⟨w.heap.size, 1 + m, none⟩ = some (.int .i64 (a m : Int)) := fun m hm => cell_row (n := n) (fun i hi => by
      rw [hW.cell (p := ⟨w.heap.size, i, none⟩) hz0, hc _ _ (by simp; omega)]
      exact box_cell1' w _ _ _ _ i) hm
    exact reverse1_any n a Ha.out p hp _ W hn hx
  rintro e w2 ⟨rfl, hb2⟩
  rw [pad_r, pad_r, pad_r, pad_r, pad_r]
  obtain ⟨hc2, hf2⟩ := bcell hb2
  have B2 := B1.trans (Joins.below_le hb2 B1.size)
  have hz2 : w.heap.size + 1 < w2.heap.size := by have := hb2.size; omega
  have q : ∀ i, w2.cell? ⟨w.heap.size + 1, i, none⟩ = (#[.int .i64 0, .int .i64 0, .int .i64 0, .int .i64 0, .int .i64 0, .int .i64 0] : Array Value)[i]? := fun i =>
    (hc2 _ _ hz1).trans ((hc _ _ (by simp)).trans (Joins.cell_alloc_mark_at _ _ _ (0, 0) _ i (by simp)))
  have q0 := q 0
  have q1 := q 1
  have q2 := q 2
  have q3 := q 3
  have q4 := q 4
  have q5 := q 5
  clear q
  simp at q0 q1 q2 q3 q4 q5
  go_wp2_with fail
  refine bodyPost_ret (v := .tuple #[gv n (rev n a), .int .i64 0]) (by simp [results, Tryd.results45, go_sem, q0, q1, q2, q3, q4, q5]) rfl ⟨rfl, ?_⟩
  repeat' (first | (with_reducible exact B2) | (with_reducible refine Below.setCell ?_ ?_ _) | go_size)
end Go.Proofs.YtacnhklhimogkaaDoor
