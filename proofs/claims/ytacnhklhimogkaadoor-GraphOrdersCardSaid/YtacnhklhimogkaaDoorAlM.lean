/- The list of all graphs of n processes, in plain numbers. -/
import Derived.Test.YtacnhklhimogkaaDoorTb
namespace Go.Proofs.YtacnhklhimogkaaDoor
set_option linter.unusedVariables false
set_option linter.unusedSimpArgs false
open Go.RowKit

/-- Row p of a graph becomes v. -/
def upd (a : Nat → Nat) (p v : Nat) : Nat → Nat := fun i => if i = p then v else a i
theorem upd_upd (a : Nat → Nat) (p u v : Nat) : upd (upd a p u) p v = upd a p v := by
  funext i; unfold upd; split <;> rfl
theorem upd_at (a : Nat → Nat) (p v : Nat) : upd a p v p = v := if_pos rfl
theorem upd_off (a : Nat → Nat) {p i : Nat} (v : Nat) (h : i ≠ p) : upd a p v i = a i := if_neg h
/-- The graphs whose row p is a set below m that has p. -/
def exts (p : Nat) (a : Nat → Nat) : Nat → List (Nat → Nat)
  | 0 => []
  | m + 1 => exts p a m ++ if m / 2 ^ p % 2 = 1 then [upd a p m] else []
theorem exts_yes {p : Nat} {a : Nat → Nat} {m : Nat} (h : m / 2 ^ p % 2 = 1) : exts p a (m + 1) = exts p a m ++ [upd a p m] := by
  show exts p a m ++ _ = _
  rw [if_pos h]
theorem exts_no {p : Nat} {a : Nat → Nat} {m : Nat} (h : ¬ m / 2 ^ p % 2 = 1) : exts p a (m + 1) = exts p a m := by
  show exts p a m ++ _ = _
  rw [if_neg h, List.append_nil]
theorem exts_le (p : Nat) (a : Nat → Nat) : ∀ m, (exts p a m).length ≤ m
  | 0 => Nat.le_refl _
  | m + 1 => by
    have := exts_le p a m
    unfold exts
    split <;> simp <;> omega
/-- How many sets below m have p. -/
def cntp (p : Nat) : Nat → Nat
  | 0 => 0
  | m + 1 => cntp p m + if m / 2 ^ p % 2 = 1 then 1 else 0
theorem exts_len (p : Nat) (a : Nat → Nat) : ∀ m, (exts p a m).length = cntp p m
  | 0 => rfl
  | m + 1 => by
    have := exts_len p a m
    unfold exts cntp
    split <;> simp <;> omega
theorem cnt_half {n p : Nat} (hn : n ≤ 5) (hp : p < n) : cntp p (2 ^ n) = 2 ^ (n - 1) := by
  obtain rfl | rfl | rfl | rfl | rfl : n = 1 ∨ n = 2 ∨ n = 3 ∨ n = 4 ∨ n = 5 := by omega
  all_goals
    obtain rfl | rfl | rfl | rfl | rfl : p = 0 ∨ p = 1 ∨ p = 2 ∨ p = 3 ∨ p = 4 := by omega
    all_goals first | (exfalso; omega) | decide +kernel
/-- All graphs whose rows before p are chosen. -/
def allG (n : Nat) : Nat → List (Nat → Nat)
  | 0 => [fun _ => 0]
  | p + 1 => (allG n p).flatMap fun a => exts p a (2 ^ n)
/-- What the first k of a list give. -/
def lay (n p : Nat) (l : List (Nat → Nat)) (k : Nat) : List (Nat → Nat) := (l.take k).flatMap fun a => exts p a (2 ^ n)
theorem lay_succ (n p : Nat) (l : List (Nat → Nat)) {k : Nat} (h : k < l.length) : lay n p l (k + 1) = lay n p l k ++ exts p l[k] (2 ^ n) := by
  unfold lay
  rw [List.take_succ_eq_append_getElem h, List.flatMap_append]
  simp
theorem lay_all (n p : Nat) : lay n p (allG n p) (allG n p).length = allG n (p + 1) := by
  unfold lay
  rw [List.take_length]
  rfl
theorem flat_len (p m : Nat) : ∀ l : List (Nat → Nat), (l.flatMap fun a => exts p a m).length = l.length * cntp p m
  | [] => by simp
  | a :: l => by
    rw [List.flatMap_cons, List.length_append, flat_len p m l, exts_len, List.length_cons, Nat.add_mul]
    omega
theorem lay_le {n p : Nat} (hn : n ≤ 5) (hp : p < n) (l : List (Nat → Nat)) (k : Nat) : (lay n p l k).length ≤ l.length * 16 := by
  unfold lay
  rw [flat_len, cnt_half hn hp]
  have h1 : (l.take k).length ≤ l.length := List.length_take_le' ..
  have h2 : 2 ^ (n - 1) ≤ 2 ^ 4 := Nat.pow_le_pow_right (by omega) (by omega)
  exact Nat.mul_le_mul h1 h2
theorem allG_len {n : Nat} (hn : n ≤ 5) : ∀ p, p ≤ n → (allG n p).length = 2 ^ ((n - 1) * p)
  | 0, _ => rfl
  | p + 1, h => by
    show ((allG n p).flatMap _).length = _
    rw [flat_len, cnt_half hn (by omega), allG_len hn p (by omega), ← Nat.pow_add, Nat.mul_succ]
theorem allG_pos {n p : Nat} (hn : n ≤ 5) (hp : p ≤ n) : 1 ≤ (allG n p).length := by
  rw [allG_len hn p hp]; exact Nat.one_le_two_pow
theorem allG_le {n p : Nat} (hn : n ≤ 4) (hp : p ≤ n) : (allG n p).length ≤ 4096 := by
  rw [allG_len (by omega) p hp]
  have : (n - 1) * p ≤ 12 := Nat.le_trans (Nat.mul_le_mul (show n - 1 ≤ 3 by omega) (show p ≤ 4 by omega)) (by omega)
  exact Nat.pow_le_pow_right (by omega) this

/-- The cells of a graph, and of a list of graphs. -/
def gcl (n : Nat) (a : Nat → Nat) : List Value := [.int .i64 (n : Int), .int .i64 (a 0 : Int), .int .i64 (a 1 : Int), .int .i64 (a 2 : Int), .int .i64 (a 3 : Int), .int .i64 (a 4 : Int)]
def flat (n : Nat) (l : List (Nat → Nat)) : List Value := l.flatMap (gcl n)
theorem flat_length (n : Nat) : ∀ l, (flat n l).length = l.length * 6
  | [] => rfl
  | a :: l => by
    show (gcl n a ++ flat n l).length = _
    rw [List.length_append, flat_length n l, List.length_cons]
    show 6 + _ = _
    omega
theorem flat_append (n : Nat) (l m : List (Nat → Nat)) : flat n (l ++ m) = flat n l ++ flat n m := List.flatMap_append
theorem flat_get (n : Nat) : ∀ (l : List (Nat → Nat)) (i k : Nat) (h : i < l.length), k < 6 → (flat n l)[i * 6 + k]? = (gcl n l[i])[k]?
  | [], i, k, h, _ => by simp at h
  | a :: l, i, k, h, hk => by
    show (gcl n a ++ flat n l)[_]? = _
    cases i with
    | zero =>
      rw [Nat.zero_mul, Nat.zero_add, List.getElem?_append_left (by exact hk)]
      rfl
    | succ i =>
      have e : (i + 1) * 6 + k = 6 + (i * 6 + k) := by omega
      rw [e, List.getElem?_append_right (by show 6 ≤ _; omega)]
      have := flat_get n l i k (by simpa using h) hk
      show (flat n l)[6 + (i * 6 + k) - 6]? = _
      rw [show 6 + (i * 6 + k) - 6 = i * 6 + k from by omega, this]
      rfl
end Go.Proofs.YtacnhklhimogkaaDoor
