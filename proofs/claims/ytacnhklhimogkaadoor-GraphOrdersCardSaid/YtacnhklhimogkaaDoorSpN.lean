/- The digits of a set, and the set of the digits, in plain lists. -/
import Derived.Test.YtacnhklhimogkaaDoorSpM
import Derived.Test.YtacnhklhimogkaaDoorPmM
namespace Go.Proofs.YtacnhklhimogkaaDoor
set_option linter.unusedVariables false
set_option linter.unusedSimpArgs false

/-- The digits of the elements of x below m, as bytes. -/
def rtl (x : Nat) : Nat → List UInt8
  | 0 => []
  | m + 1 => if x / 2 ^ m % 2 = 1 then rtl x m ++ [UInt8.ofNat (48 + m)] else rtl x m
theorem enc_data (m : Nat) (hm : m < 5) : (Utf8.encode ((48 + m : Nat) : Int)).data.toList = [UInt8.ofNat (48 + m)] := by
  obtain rfl | rfl | rfl | rfl | rfl : m = 0 ∨ m = 1 ∨ m = 2 ∨ m = 3 ∨ m = 4 := by omega
  all_goals decide +kernel
theorem rtx_data (x : Nat) : ∀ m, m ≤ 5 → (rtx x m).data.toList = rtl x m
  | 0, _ => rfl
  | m + 1, h => by
    have h1 := rtx_data x m (by omega)
    have h2 := enc_data m (by omega)
    unfold rtx rtl
    split
    · rw [ByteArray.data_append, Array.toList_append, h1, h2]
    · exact h1
theorem rtl_bytes (x : Nat) : ∀ m, m ≤ 5 → ∀ b ∈ rtl x m, ∃ q, q < m ∧ b = UInt8.ofNat (48 + q)
  | 0, _, b, hb => by cases hb
  | m + 1, h, b, hb => by
    unfold rtl at hb
    by_cases hx : x / 2 ^ m % 2 = 1
    · rw [if_pos hx, List.mem_append] at hb
      rcases hb with hb | hb
      · obtain ⟨q, hq, e⟩ := rtl_bytes x m (by omega) b hb
        exact ⟨q, by omega, e⟩
      · exact ⟨m, by omega, by simpa using hb⟩
    · rw [if_neg hx] at hb
      obtain ⟨q, hq, e⟩ := rtl_bytes x m (by omega) b hb
      exact ⟨q, by omega, e⟩
theorem rtl_ne (x m : Nat) (hm : m ≤ 5) : ∀ b ∈ rtl x m, b ≠ 32 := by
  intro b hb
  obtain ⟨q, hq, rfl⟩ := rtl_bytes x m hm b hb
  obtain rfl | rfl | rfl | rfl | rfl : q = 0 ∨ q = 1 ∨ q = 2 ∨ q = 3 ∨ q = 4 := by omega
  all_goals decide

/-- One byte's element, joined to a set: nothing where the byte is no digit below 5. -/
def orb1 (r : Nat) (b : UInt8) : Nat := if 48 ≤ b.toNat ∧ b.toNat < 53 then r ||| 2 ^ (b.toNat - 48) else r
def orb (l : List UInt8) : Nat := l.foldl orb1 0
theorem orb_app (l : List UInt8) (b : UInt8) : orb (l ++ [b]) = orb1 (orb l) b := by simp [orb]
theorem orb_rtl (x : Nat) : ∀ m, m ≤ 5 → orb (rtl x m) = x % 2 ^ m
  | 0, _ => by simp [rtl, orb, Nat.mod_one]
  | m + 1, h => by
    have ih := orb_rtl x m (by omega)
    have hmod : x % 2 ^ (m + 1) = x % 2 ^ m + 2 ^ m * (x / 2 ^ m % 2) := Nat.mod_pow_succ
    have hlt : x % 2 ^ m < 2 ^ m := Nat.mod_lt _ (Nat.pow_pos (by omega))
    unfold rtl
    by_cases hx : x / 2 ^ m % 2 = 1
    · rw [if_pos hx, orb_app, ih, hmod, hx, Nat.mul_one]
      have hb : (UInt8.ofNat (48 + m)).toNat = 48 + m := by
        obtain rfl | rfl | rfl | rfl | rfl : m = 0 ∨ m = 1 ∨ m = 2 ∨ m = 3 ∨ m = 4 := by omega
        all_goals decide
      unfold orb1
      rw [hb, if_pos ⟨by omega, by omega⟩, show 48 + m - 48 = m by omega]
      rw [Nat.or_comm, Nat.add_comm]
      exact (Nat.two_pow_add_eq_or_of_lt hlt 1 |> fun h => by simpa using h.symm)
    · have h0 : x / 2 ^ m % 2 = 0 := by have := Nat.mod_lt (x / 2 ^ m) (show 0 < 2 by omega); omega
      rw [if_neg hx, ih, hmod, h0, Nat.mul_zero, Nat.add_zero]
theorem orb_row {x m : Nat} (hm : m ≤ 5) (hx : x < 2 ^ m) : orb (rtx x m).data.toList = x := by
  rw [rtx_data x m hm, orb_rtl x m hm, Nat.mod_eq_of_lt hx]
theorem orb_lt (l : List UInt8) : orb l < 32 := by
  have key : ∀ (l : List UInt8) (r : Nat), r < 32 → l.foldl orb1 r < 32 := by
    intro l
    induction l with
    | nil => exact fun r h => h
    | cons b l ih =>
      intro r h
      refine ih _ ?_
      unfold orb1
      split
      · rename_i hb
        exact Nat.or_lt_two_pow (n := 5) h (Nat.pow_lt_pow_right (by omega) (by omega))
      · exact h
  exact key l 0 (by omega)
end Go.Proofs.YtacnhklhimogkaaDoor
