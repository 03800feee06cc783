/- Edges of graphs, and graphs inside of others: what the package and the specification answer. -/
import Derived.Test.YtlkhbfaoebgmkaaDoorMsB
import Derived.Test.YtlkhbfaoebgmkaaDoorGrF
import Derived.Test.YtlkhbfaoebgmkaaDoorGcB
import Derived.Test.YtlkhbfaoebgmkaaDoorGrN
import Derived.Test.YtlkhbfaoebgmkaaDoorPmA
import Derived.Test.YtlkhbfaoebgmkaaDoorPmM
import Derived.Test.YtlkhbfaoebgmkaaDoorPmD
import Derived.Test.YtlkhbfaoebgmkaaDoorGrR
import Derived.Test.YtlkhbfaoebgmkaaDoorTb
import Derived.LoopTactic
import Derived.Deep.RegionWith
import Derived.WalkKit
import Derived.WalkSpells
import Derived.WalkLawsBesides
import Derived.Handy
import Derived.Deep.QuietTactic
import Derived.BigQuiet
import Derived.Outline
import Derived.Laws.BitsAllLaws
import Derived.IntWalk
import Derived.Lib.SmallJoins
import Derived.Lib.Hide
namespace Go.Proofs.YtlkhbfaoebgmkaaDoor
set_option linter.unusedVariables false
set_option linter.unusedSimpArgs false
open Go.RowKit

/-- The edges between different processes, of the first k rows. -/
def edg (n : Nat) (a : Nat → Nat) : Nat → Nat
  | 0 => 0
  | k + 1 => edg n a k + (cnt (a k) n - 1)
theorem edg_le (n : Nat) (a : Nat → Nat) : ∀ k, edg n a k ≤ k * n
  | 0 => Nat.zero_le _
  | k + 1 => by
    have h1 := edg_le n a k
    have h2 := cnt_max (a k) n
    show edg n a k + (cnt (a k) n - 1) ≤ (k + 1) * n
    rw [Nat.add_mul]; omega
theorem cnt_ext {x n : Nat} (hx : x < 2 ^ n) : ∀ m, cnt x (n + m) = cnt x n
  | 0 => rfl
  | m + 1 => by
    show cnt x (n + m) + (if x.testBit (n + m) = true then 1 else 0) = cnt x n
    rw [cnt_ext hx m, if_neg (by rw [Nat.testBit_lt_two_pow (Nat.lt_of_lt_of_le hx (Nat.pow_le_pow_right (by omega) (by omega)))]; simp)]
    rfl
theorem cnt_five {x n : Nat} (hn : n ≤ 5) (hx : x < 2 ^ n) : cnt x 5 = cnt x n := by
  have := cnt_ext hx (5 - n)
  rw [show n + (5 - n) = 5 by omega] at this
  exact this

set_option maxHeartbeats 1000000 in
theorem edges_ok (n : Nat) (a : Nat → Nat) (ha : WF n a) (w : World) :
    Calls Tryd.prog 19 #[gv n a] w fun e w' => e = .returned (.tuple #[.int .i64 ((edg n a n : Nat) : Int), .int .i64 0]) ∧ Below w.heap.size w w' := by
  have h1 : 1 ≤ n := ha.1.1
  have h5 : n ≤ 5 := ha.1.2
  have Ha := Lib.hid ha
  have Hr := Lib.hid (fun p (hp : p < n) => Nat.lt_of_lt_of_le (ha.2.1 p hp).1 (show 2 ^ n ≤ 32 from Nat.pow_le_pow_right (n := 2) (by omega) h5))
  have Hc : Hid (∀ p, p < n → cnt (a p) 5 = cnt (a p) n ∧ 1 ≤ cnt (a p) n ∧ cnt (a p) n ≤ 5) := Lib.hid (fun p hp => ⟨cnt_five h5 (ha.2.1 p hp).1, cnt_pos n hp ((tb_iff _ _).1 (ha.2.1 p hp).2), Nat.le_trans (cnt_max _ _) h5⟩)
  have hsl := slice_arr n ⟨h1, h5⟩ w.heap.size 1
  clear ha
  go_enter Tryd.func19, Tryd.ntmps19
  go_wp2_with fail
  refine (check_ok n a Ha.out _).mono ?_
  rintro e w1 ⟨rfl, hb1⟩
  have YA : Box w1 w.heap.size #[.int .i64 (n : Int), .int .i64 (a 0 : Int), .int .i64 (a 1 : Int), .int .i64 (a 2 : Int), .int .i64 (a 3 : Int), .int .i64 (a 4 : Int)] 24 := (Box.new w _ _).below hb1 (by simp)
  have B1 := fresh_below hb1
  have hz : w.heap.size < w1.heap.size := YA.lt
  have HA := Lib.hid (fun m (hm : m < 5) => cell_row (n := n) (k := a) (fun i _ => YA.cell i) hm)
  have hcn : w1.cell? ⟨w.heap.size, 0, none⟩ = some (.int .i64 (n : Int)) := YA.cell 0
  clear hb1 YA
  go_wp2_with fail
  go_loop [5, 18] (fun c j => ∃ k : Nat, k ≤ n ∧ j = .int .i64 k ∧ c = .int .i64 ((edg n a k : Nat) : Int)) (fun _ j => n - (intOf j).toNat)
  case atStart => exact ⟨0, by omega, rfl, rfl⟩
  case round =>
    obtain ⟨m, hm, rfl, rfl⟩ := hrel
    by_cases hlt : m < n
    · have hcell := HA.out m (by omega)
      obtain ⟨c1, c2, c3⟩ := Hc.out m hlt
      have hon := ones_any (a m) (Hr.out m hlt)
      rw [c1] at hon
      have hx := Hr.out m hlt
      have he : edg n a m ≤ 25 := Nat.le_trans (edg_le n a m) (Nat.le_trans (Nat.mul_le_mul (Nat.le_of_lt (Nat.lt_of_lt_of_le hlt h5)) h5) (by decide))
      have hsucc : edg n a (m + 1) = edg n a m + (cnt (a m) n - 1) := rfl
      obtain ⟨v, hv⟩ : ∃ v, edg n a m = v := ⟨_, rfl⟩
      obtain ⟨v', hv'⟩ : ∃ v, edg n a (m + 1) = v := ⟨_, rfl⟩
      obtain ⟨c, hcc⟩ : ∃ v, cnt (a m) n = v := ⟨_, rfl⟩
      obtain ⟨x, hxx⟩ : ∃ v, a m = v := ⟨_, rfl⟩
      rw [hv, hv', hcc] at hsucc
      rw [hcc] at c2 c3 hon
      rw [hv] at he ⊢
      rw [hxx] at hcell hx hon
      have hs2 : (v' : Int) = (v : Int) + ((c : Int) - 1) := by omega
      have Hv := Lib.hid hv'
      have Hs := Lib.hid hs2
      have Hon := Lib.hid hon
      have hx1 : (x : Int) < 32 := by omega
      clear hv hv' hxx hcc c1 hs2 hon hsucc
      go_wp2_with fail
      refine (Hon.out _).mono ?_
      rintro e w' ⟨rfl, rfl⟩
      go_wp2_with fail
      exact ⟨⟨m + 1, by omega, by go_num, by rw [Hv.out, Hs.out]⟩, by simp [intOf]; omega⟩
    · have hmn : m = n := by omega
      subst hmn
      go_wp2_with fail
      go_ret2
      exact ⟨rfl, B1⟩

/-- What a row counts of its first q elements, without its own. -/
def inn (a : Nat → Nat) (p q : Nat) : Nat := cnt (a p) q - (if p < q then 1 else 0)
theorem inn_own {a : Nat → Nat} {p : Nat} (h : (a p).testBit p = true) : inn a p (p + 1) = inn a p p := by
  unfold inn
  rw [if_pos (by omega), if_neg (by omega)]
  show cnt (a p) p + (if (a p).testBit p = true then 1 else 0) - 1 = _
  rw [if_pos h]; omega
theorem inn_bit {a : Nat → Nat} {p q : Nat} (h : (a p).testBit p = true) (hq : q ≠ p) (hb : (a p).testBit q = true) : inn a p (q + 1) = inn a p q + 1 := by
  unfold inn
  show cnt (a p) q + (if (a p).testBit q = true then 1 else 0) - (if p < q + 1 then 1 else 0) = _
  rw [if_pos hb]
  by_cases hl : p < q
  · have := cnt_pos q hl h
    rw [if_pos (by omega), if_pos hl]; omega
  · rw [if_neg (by omega), if_neg hl]; omega
theorem inn_not {a : Nat → Nat} {p q : Nat} (hq : q ≠ p) (hb : ¬ (a p).testBit q = true) : inn a p (q + 1) = inn a p q := by
  unfold inn
  show cnt (a p) q + (if (a p).testBit q = true then 1 else 0) - (if p < q + 1 then 1 else 0) = _
  rw [if_neg hb]
  by_cases hl : p < q
  · rw [if_pos (by omega), if_pos hl]; omega
  · rw [if_neg (by omega), if_neg hl]; omega
theorem inn_le (a : Nat → Nat) (p q : Nat) : inn a p q ≤ q := by have := cnt_max (a p) q; unfold inn; omega

set_option maxHeartbeats 2000000 in
theorem redges_ok (n : Nat) (a : Nat → Nat) (ha : WF n a) (ra : Rng (fun p => (a p : Int))) (w : World) :
    Calls Tryd.prog 20 #[gv n a] w fun e w' => e = .returned (.tuple #[.int .i64 ((edg n a n : Nat) : Int), .int .i64 0]) ∧ Below w.heap.size w w' := by
  have h1 : 1 ≤ n := ha.1.1
  have h5 : n ≤ 5 := ha.1.2
  have Ha := Lib.hid ha
  have Ra := Lib.hid ra
  have Hr := Lib.hid (fun p (hp : p < n) => pow_small h5 (ha.2.1 p hp).1)
  have Hown : Hid (∀ p, p < n → (a p).testBit p = true) := Lib.hid (fun p hp => (tb_iff _ _).1 (ha.2.1 p hp).2)
  clear ha ra
  go_enter Tryd.func20, Tryd.ntmps20
  go_wp2_with fail
  refine (rcheck_yes (n : Int) _ Ra.out (wfi_of Ha.out) _).mono ?_
  rintro e w1 ⟨rfl, hb1⟩
  have YA : Box w1 w.heap.size #[.int .i64 (n : Int), .int .i64 (a 0 : Int), .int .i64 (a 1 : Int), .int .i64 (a 2 : Int), .int .i64 (a 3 : Int), .int .i64 (a 4 : Int)] 24 := (Box.new w _ _).below hb1 (by simp)
  have B1 := fresh_below hb1
  have hz : w.heap.size < w1.heap.size := YA.lt
  have HA := Lib.hid (fun m (hm : m < 5) => cell_row (n := n) (k := a) (fun i _ => YA.cell i) hm)
  have hcn : w1.cell? ⟨w.heap.size, 0, none⟩ = some (.int .i64 (n : Int)) := YA.cell 0
  clear hb1 YA
  go_wp2_with fail
  go_loop [5, 6] (fun c j => ∃ k : Nat, k ≤ n ∧ j = .int .i64 k ∧ c = .int .i64 ((edg n a k : Nat) : Int)) (fun _ j => n - (intOf j).toNat)
  case atStart => exact ⟨0, by omega, rfl, rfl⟩
  case round =>
    obtain ⟨p, hp, rfl, rfl⟩ := hrel
    by_cases hlt : p < n
    · have hcell := HA.out p (by omega)
      have he : edg n a p ≤ 25 := Nat.le_trans (edg_le n a p) (Nat.le_trans (Nat.mul_le_mul (Nat.le_of_lt (Nat.lt_of_lt_of_le hlt h5)) h5) (by decide))
      have hown := Hown.out p hlt
      have hsucc : edg n a (p + 1) = edg n a p + inn a p n := by
        show edg n a p + (cnt (a p) n - 1) = _
        unfold inn; rw [if_pos hlt]
      have Hsucc := Lib.hid hsucc
      have Howp := Lib.hid hown
      clear hsucc hown
      go_wp2_with fail
      go_loop [5, 7] (fun c j => ∃ q : Nat, q ≤ n ∧ j = .int .i64 q ∧ c = .int .i64 ((edg n a p + inn a p q : Nat) : Int)) (fun _ j => n - (intOf j).toNat)
      case atStart => exact ⟨0, by omega, rfl, by unfold inn; simp [cnt]⟩
      case round =>
        obtain ⟨q, hq, rfl, rfl⟩ := hrel
        by_cases hql : q < n
        · have hi := inn_le a p q
          by_cases hqp : q = p
          · subst hqp
            have hin := inn_own Howp.out
            have Hin := Lib.hid hin
            obtain ⟨v, hv⟩ : ∃ v, edg n a q + inn a q q = v := ⟨_, rfl⟩
            have hv1 : v ≤ 30 := by omega
            rw [hv]
            have Hv := Lib.hid hv
            clear hin hv he hi
            go_wp2_with fail
            exact ⟨⟨q + 1, by omega, by go_num, by rw [Hin.out, Hv.out]⟩, by simp [intOf]; omega⟩
          · have hne : ((p : Int) != (q : Int)) = true := by rw [bne_iff_ne]; omega
            have hnp : ¬ (p : Int) = (q : Int) := by omega
            have hhas := fun w => has_any q (by omega) (a p) (Hr.out p hlt) w
            have hx := Hr.out p hlt
            by_cases hbit : a p / 2 ^ q % 2 = 1
            · have hin := inn_bit Howp.out hqp ((tb_iff _ _).1 hbit)
              rw [decide_eq_true hbit] at hhas
              obtain ⟨v, hv⟩ : ∃ v, edg n a p + inn a p q = v := ⟨_, rfl⟩
              have hv1 : v ≤ 30 := by omega
              have hv2 : ((edg n a p + inn a p (q + 1) : Nat) : Int) = (v : Int) + 1 := by omega
              rw [hv]
              have Hv := Lib.hid hv2
              obtain ⟨x, hxx⟩ : ∃ x, a p = x := ⟨_, rfl⟩
              rw [hxx] at hcell hx hhas
              have Hhas := Lib.hid hhas
              clear hin hv he hi hv2 hbit hxx hhas
              go_wp2_with fail
              refine (Hhas.out _).mono ?_
              rintro e w' ⟨rfl, rfl⟩
              go_wp2_with fail
              exact ⟨⟨q + 1, by omega, by go_num, by rw [Hv.out]⟩, by simp [intOf]; omega⟩
            · have hin := inn_not hqp (fun h => hbit ((tb_iff _ _).2 h))
              rw [decide_eq_false hbit] at hhas
              obtain ⟨v, hv⟩ : ∃ v, edg n a p + inn a p q = v := ⟨_, rfl⟩
              have hv1 : v ≤ 30 := by omega
              have hv2 : edg n a p + inn a p (q + 1) = v := by omega
              rw [hv]
              have Hv := Lib.hid hv2
              obtain ⟨x, hxx⟩ : ∃ x, a p = x := ⟨_, rfl⟩
              rw [hxx] at hcell hx hhas
              have Hhas := Lib.hid hhas
              clear hin hv he hi hv2 hbit hxx hhas
              go_wp2_with fail
              refine (Hhas.out _).mono ?_
              rintro e w' ⟨rfl, rfl⟩
              go_wp2_with fail
              exact ⟨⟨q + 1, by omega, by go_num, by rw [Hv.out]⟩, by simp [intOf]; omega⟩
        · have hqn : q = n := by omega
          subst hqn
          have Hs2 : Hid (edg q a p + inn a p q = edg q a (p + 1)) := Lib.hid Hsucc.out.symm
          rw [Hs2.out]
          clear he hcell
          go_wp2_with fail
          exact ⟨⟨p + 1, by omega, by go_num, rfl⟩, by simp [intOf]; omega⟩
    · have hmn : p = n := by omega
      subst hmn
      go_wp2_with fail
      go_ret2
      exact ⟨rfl, B1⟩
end Go.Proofs.YtlkhbfaoebgmkaaDoor
