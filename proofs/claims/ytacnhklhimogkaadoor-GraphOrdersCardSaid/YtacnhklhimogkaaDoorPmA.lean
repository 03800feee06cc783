/- The product of two well-formed graphs of the same number of processes, as graph.Compose computes it. -/
import Derived.Test.YtacnhklhimogkaaDoorT
import Derived.Test.YtacnhklhimogkaaDoorGrB
import Derived.Test.YtacnhklhimogkaaDoorGrA
import Derived.Test.YtacnhklhimogkaaDoorGrC
import Derived.Test.YtacnhklhimogkaaDoorGrD
import Derived.Test.YtacnhklhimogkaaDoorGrE
import Derived.Test.YtacnhklhimogkaaDoorGrN
import Derived.LoopTactic
import Derived.Deep.RegionWith
import Derived.Test.YtacnhklhimogkaaDoorGrM
import Derived.WalkKit
import Derived.WalkSpells
import Derived.WalkLawsBesides
import Derived.Handy
import Derived.Deep.QuietTactic
import Derived.BigQuiet
import Derived.Outline
import Derived.Laws.BitsAllLaws
import Derived.IntWalk
import Derived.Lib.SmallJoins
import Derived.Lib.Hide
namespace Go.Proofs.YtacnhklhimogkaaDoor
set_option linter.unusedVariables false
set_option linter.unusedSimpArgs false
open Go.RowKit






/-- The union of the rows a 0 to a (m - 1) whose process is an element of the set y. -/
def prow (a : Nat → Nat) (y : Nat) : Nat → Nat
  | 0 => 0
  | m + 1 => if y / 2 ^ m % 2 = 1 then prow a y m ||| a m else prow a y m

theorem prow_lt {a : Nat → Nat} {y n : Nat} : ∀ m, (∀ p, p < m → a p < 2 ^ n) → prow a y m < 2 ^ n
  | 0, _ => Nat.pow_pos (by omega)
  | m + 1, h => by
    have := prow_lt (y := y) m (fun p hp => h p (by omega))
    unfold prow
    split
    · exact Nat.or_lt_two_pow this (h m (by omega))
    · exact this

theorem bit_is (y q : Nat) (hy : y < 4294967296) (h : y / q % 2 = 1) : (bits .and .i64 ((y : Int) / (q : Int)) 1 == 1) = true := by
  rw [← Int.natCast_ediv, i64_and_one _ (Nat.lt_of_le_of_lt (Nat.div_le_self _ _) hy), h]
  rfl
theorem bit_not (y q : Nat) (hy : y < 4294967296) (h : ¬ y / q % 2 = 1) : (bits .and .i64 ((y : Int) / (q : Int)) 1 == 1) = false := by
  have h0 : y / q % 2 = 0 := by omega
  rw [← Int.natCast_ediv, i64_and_one _ (Nat.lt_of_le_of_lt (Nat.div_le_self _ _) hy), h0]
  rfl

/-- One round: what the loop holds behind it. -/
theorem prow_in {a : Nat → Nat} {y m n : Nat} (hn : n ≤ 5) (hm : m < n) (ha : ∀ p, p < n → a p < 2 ^ n) (h : y / 2 ^ m % 2 = 1) :
    bits .or .i64 ((prow a y m : Nat) : Int) ((a m : Nat) : Int) = ((prow a y (m + 1) : Nat) : Int) := by
  rw [i64_or_nat _ _ (pow_small hn (prow_lt m (fun p hp => ha p (by omega)))) (pow_small hn (ha m hm))]
  conv => rhs; unfold prow
  rw [if_pos h]
theorem prow_out {a : Nat → Nat} {y m : Nat} (h : ¬ y / 2 ^ m % 2 = 1) : prow a y (m + 1) = prow a y m := by
  conv => lhs; unfold prow
  rw [if_neg h]

theorem slice_arr (n : Nat) (hn : 1 ≤ n ∧ n ≤ 5) (A o : Nat) (w : World) :
    (Instr.sliceAt 22 (.pointer (some ⟨A, o, none⟩)) none (some (.int .i64 (n : Int))) none).run Tryd.prog w = .ok (.slice (some ⟨A, o, none⟩) n 5) w := by
  obtain rfl | rfl | rfl | rfl | rfl : n = 1 ∨ n = 2 ∨ n = 3 ∨ n = 4 ∨ n = 5 := by omega
  all_goals kernel_rfl

set_option maxHeartbeats 1000000 in
theorem product1_any (n : Nat) (a b : Nat → Nat) (ha : WF n a) (hb : WF n b) (p : Nat) (hp : p < n) (A B : Nat) (w : World)
    (hn : w.cell? ⟨A, 0, none⟩ = some (.int .i64 (n : Int))) (hA : ∀ m, m < 5 → w.cell? ⟨A, 1 + m, none⟩ = some (.int .i64 (a m : Int))) (hB : w.cell? ⟨B, 1 + p, none⟩ = some (.int .i64 (b p : Int))) :
    Calls Tryd.prog 68 #[.int .i64 (p : Int), .pointer (some ⟨A, 0, none⟩), .pointer (some ⟨B, 0, none⟩)] w
      fun e w' => e = .returned (.int .i64 ((prow a (b p) n : Nat) : Int)) ∧ ∃ k, w' = w.drewN k := by
  have h1 : (0 : Int) ≤ (p : Int) := by omega
  have h2 : (p : Int) < 5 := by have := ha.1.2; omega
  have h3 : 1 ≤ n := ha.1.1
  have h4 : n ≤ 5 := ha.1.2
  have hy := row_small hb hp
  have har : ∀ p, p < n → a p < 2 ^ n := fun p hp => (ha.2.1 p hp).1
  obtain ⟨y, hyy⟩ : ∃ y, b p = y := ⟨_, rfl⟩
  rw [hyy] at hy hB ⊢
  have Har := Lib.hid har
  have HA := Lib.hid hA
  have hsl := slice_arr n ⟨h3, h4⟩ A 1
  clear ha hb hyy har hA
  go_enter Tryd.func68, Tryd.ntmps68
  go_wp2_with fail
  go_loop [5, 13] (fun s i => ∃ m : Nat, m ≤ n ∧ i = .int .i64 m ∧ s = .int .i64 ((prow a y m : Nat) : Int)) (fun _ i => n - (intOf i).toNat)
  case atStart => exact ⟨0, by omega, rfl, rfl⟩
  case round =>
    obtain ⟨m, hm, rfl, rfl⟩ := hrel
    by_cases hlt : m < n
    · have hc := HA.out m (by omega)
      have hr := pow_small h4 (Har.out m hlt)
      have hv := pow_small h4 (prow_lt (y := y) m (fun p hp => Har.out p (by omega)))
      by_cases hbit : y / 2 ^ m % 2 = 1
      · have hor := prow_in h4 hlt Har.out hbit
        obtain ⟨v, hvv⟩ : ∃ v, prow a y m = v := ⟨_, rfl⟩
        obtain ⟨v', hvv'⟩ : ∃ v, prow a y (m + 1) = v := ⟨_, rfl⟩
        obtain ⟨x, hx⟩ : ∃ v, a m = v := ⟨_, rfl⟩
        rw [hvv, hvv', hx] at hor
        rw [hvv] at hv ⊢
        rw [hx] at hc hr
        have Hv := Lib.hid hvv'
        have hb2 : (bits .and .i64 ((y : Int) / ((2 ^ m : Nat) : Int)) 1 == 1) = true := bit_is y (2 ^ m) hy hbit
        clear hvv hvv' hx hbit
        obtain rfl | rfl | rfl | rfl | rfl : m = 0 ∨ m = 1 ∨ m = 2 ∨ m = 3 ∨ m = 4 := by omega
        all_goals
          simp only [Nat.reducePow, Nat.reduceAdd, Int.cast_ofNat_Int, Int.ediv_one] at hb2 hc
          go_wp2_with fail
          first
            | exact ⟨⟨1, by omega, rfl, by rw [← Hv.out]⟩, by simp [intOf]; omega⟩
            | exact ⟨⟨2, by omega, rfl, by rw [← Hv.out]⟩, by simp [intOf]; omega⟩
            | exact ⟨⟨3, by omega, rfl, by rw [← Hv.out]⟩, by simp [intOf]; omega⟩
            | exact ⟨⟨4, by omega, rfl, by rw [← Hv.out]⟩, by simp [intOf]; omega⟩
            | exact ⟨⟨5, by omega, rfl, by rw [← Hv.out]⟩, by simp [intOf]; omega⟩
      · have hor := prow_out (a := a) hbit
        obtain ⟨v, hvv⟩ : ∃ v, prow a y m = v := ⟨_, rfl⟩
        rw [hvv] at hor hv ⊢
        have Hv := Lib.hid hor
        have hb2 : (bits .and .i64 ((y : Int) / ((2 ^ m : Nat) : Int)) 1 == 1) = false := bit_not y (2 ^ m) hy hbit
        clear hvv hor hbit
        obtain rfl | rfl | rfl | rfl | rfl : m = 0 ∨ m = 1 ∨ m = 2 ∨ m = 3 ∨ m = 4 := by omega
        all_goals
          simp only [Nat.reducePow, Nat.reduceAdd, Int.cast_ofNat_Int, Int.ediv_one] at hb2 hc
          go_wp2_with fail
          first
            | exact ⟨⟨1, by omega, rfl, by rw [← Hv.out]⟩, by simp [intOf]; omega⟩
            | exact ⟨⟨2, by omega, rfl, by rw [← Hv.out]⟩, by simp [intOf]; omega⟩
            | exact ⟨⟨3, by omega, rfl, by rw [← Hv.out]⟩, by simp [intOf]; omega⟩
            | exact ⟨⟨4, by omega, rfl, by rw [← Hv.out]⟩, by simp [intOf]; omega⟩
            | exact ⟨⟨5, by omega, rfl, by rw [← Hv.out]⟩, by simp [intOf]; omega⟩
    · have hmn : m = n := by omega
      subst hmn
      go_wp2_with fail
      go_ret
      exact ⟨rfl, 0, rfl⟩

theorem pad_p {n : Nat} {a b : Nat → Nat} {p : Nat} (hp : p < 5) (hb : WF n b) : pad n (fun p => ((prow a (b p) n : Nat) : Int)) p = (((if p < n then prow a (b p) n else 0 : Nat)) : Int) := by
  unfold pad
  split <;> rfl

/-- The rows of the product. -/
def prod (n : Nat) (a b : Nat → Nat) (p : Nat) : Nat := if p < n then prow a (b p) n else 0

set_option maxHeartbeats 1000000 in
theorem product_ok (n : Nat) (a b : Nat → Nat) (ha : WF n a) (hb : WF n b) (w : World) :
    Calls Tryd.prog 54 #[gv n a, gv n b] w fun e w' => e = .returned (gv n (prod n a b)) ∧ Below w.heap.size w w' := by
  have Ha := Lib.hid ha
  have Hb := Lib.hid hb
  have hn1 : 1 ≤ n := ha.1.1
  have hn5 : n ≤ 5 := ha.1.2
  clear ha hb
  go_enter Tryd.func54, Tryd.ntmps54
  go_wp2_with fail
  refine (rows_any n ⟨hn1, hn5⟩ 68 _ (fun p => ((prow a (b p) n : Nat) : Int)) _ (fun args w => by kernel_rfl) ?_).mono ?_
  · intro p W hp hW
    have hn : W.cell? ⟨w.heap.size, 0, none⟩ = some (.int .i64 (n : Int)) := by
      rw [hW.cell (p := ⟨w.heap.size, 0, none⟩) (by simp; omega)]
      exact box_cell1 w _ _ _ _ _ _ 0
    have hx : ∀ m, m < 5 → W.cell? ⟨w.heap.size, 1 + m, none⟩ = some (.int .i64 (a m : Int)) := fun m hm => cell_row (n := n) (fun i hi => by
      rw [hW.cell (p := ⟨w.heap.size, i, none⟩) (by simp; omega)]
      exact box_cell1 w _ _ _ _ _ _ i) hm
    have hy : W.cell? ⟨w.heap.size + 1, 1 + p, none⟩ = some (.int .i64 (b p : Int)) := cell_row (n := n) (fun i hi => by
      rw [hW.cell (p := ⟨w.heap.size + 1, i, none⟩) (by simp)]
      exact box_cell2 w _ _ _ _ _ _ i) (by omega)
    exact product1_any n a b Ha.out Hb.out p hp _ _ W hn hx hy
  rintro e w1 ⟨rfl, hb1⟩
  rw [pad_p (by omega) Hb.out, pad_p (by omega) Hb.out, pad_p (by omega) Hb.out, pad_p (by omega) Hb.out, pad_p (by omega) Hb.out]
  have e0 : ∀ p, (if p < n then prow a (b p) n else 0) = prod n a b p := fun _ => rfl
  rw [e0, e0, e0, e0, e0]
  obtain ⟨hc, hf⟩ := bcell hb1
  have hz : w.heap.size + 1 + 1 < w1.heap.size := by have := hb1.size; simp at this; omega
  have q : ∀ i, w1.cell? ⟨w.heap.size + 1 + 1, i, none⟩ = (#[.int .i64 0, .int .i64 0, .int .i64 0, .int .i64 0, .int .i64 0, .int .i64 0] : Array Value)[i]? := fun i =>
    (hc _ _ (by simp)).trans (Joins.cell_alloc_mark_at _ _ _ (0, 0) _ i (by simp))
  have q0 := q 0
  have q1 := q 1
  have q2 := q 2
  have q3 := q 3
  have q4 := q 4
  have q5 := q 5
  clear q
  simp at q0 q1 q2 q3 q4 q5
  have B0 : Below w.heap.size w w1 := ((((Below.refl w.heap.size w).alloc (Nat.le_refl _) _).alloc (by simp) _).alloc (by simp; omega) _).trans (Joins.below_le hb1 (by simp; omega))
  clear hb1
  go_wp2_with fail
  refine bodyPost_ret (v := gv n (prod n a b)) (by simp [results, Tryd.results54, go_sem, q0, q1, q2, q3, q4, q5]) rfl ⟨rfl, ?_⟩
  repeat' (first | (with_reducible exact B0) | (with_reducible refine Below.setCell ?_ ?_ _) | go_size)

set_option maxHeartbeats 1000000 in
theorem compose_ok (n : Nat) (a b : Nat → Nat) (ha : WF n a) (hb : WF n b) (w : World) :
    Calls Tryd.prog 34 #[gv n a, gv n b] w fun e w' => e = .returned (.tuple #[gv n (prod n a b), .int .i64 0]) ∧ Below w.heap.size w w' := by
  have Ha := Lib.hid ha
  have Hb := Lib.hid hb
  clear ha hb
  go_enter Tryd.func34, Tryd.ntmps34
  go_wp2_with fail
  refine (pair_ok n a b Ha.out Hb.out _).mono ?_
  rintro e w1 ⟨rfl, hb1⟩
  obtain ⟨hc, hf⟩ := bcell hb1
  have hz : w.heap.size + 1 + 1 < w1.heap.size := by have := hb1.size; simp at this; omega
  have hz0 : w.heap.size < w1.heap.size := by omega
  have hz1 : w.heap.size + 1 < w1.heap.size := by omega
  have B1 : Below w.heap.size w w1 := ((((Below.refl w.heap.size w).alloc (Nat.le_refl _) _).alloc (by simp) _).alloc (by simp; omega) _).trans (Joins.below_le hb1 (by simp; omega))
  go_wp2_with fail
  refine (product_ok n a b Ha.out Hb.out _).mono ?_
  rintro e w2 ⟨rfl, hb2⟩
  obtain ⟨hc2, hf2⟩ := bcell hb2
  have q : ∀ i, w2.cell? ⟨w.heap.size + 1 + 1, i, none⟩ = (#[.int .i64 0, .int .i64 0, .int .i64 0, .int .i64 0, .int .i64 0, .int .i64 0] : Array Value)[i]? := fun i =>
    (hc2 _ _ hz).trans ((hc _ _ (by simp)).trans (Joins.cell_alloc_mark_at _ _ _ (0, 0) _ i (by simp)))
  have q0 := q 0
  have q1 := q 1
  have q2 := q 2
  have q3 := q 3
  have q4 := q 4
  have q5 := q 5
  clear q
  simp at q0 q1 q2 q3 q4 q5
  have B2 := B1.trans (Joins.below_le hb2 B1.size)
  go_wp2_with fail
  refine bodyPost_ret (v := .tuple #[gv n (prod n a b), .int .i64 0]) (by simp [results, Tryd.results34, go_sem, q0, q1, q2, q3, q4, q5]) rfl ⟨rfl, ?_⟩
  repeat' (first | (with_reducible exact B2) | (with_reducible refine Below.setCell ?_ ?_ _) | go_size)
end Go.Proofs.YtacnhklhimogkaaDoor
