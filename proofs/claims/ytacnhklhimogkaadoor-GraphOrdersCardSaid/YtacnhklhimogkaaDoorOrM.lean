/- The order of graphs, in plain numbers: antisymmetric, total, transitive; nought exactly at equal graphs. -/
import Derived.Test.YtacnhklhimogkaaDoorCkA
namespace Go.Proofs.YtacnhklhimogkaaDoor
set_option linter.unusedVariables false
set_option linter.unusedSimpArgs false
open Go.RowKit

theorem cgo_neg (a b : Nat → Int) : ∀ m i, cgo b a m i = - cgo a b m i
  | 0, _ => rfl
  | m + 1, i => by
    unfold cgo
    rcases Int.lt_trichotomy (a i) (b i) with h | h | h
    · rw [if_neg (by omega), if_pos h, if_pos h]; rfl
    · rw [if_neg (by omega), if_neg (by omega), if_neg (by omega), if_neg (by omega)]; exact cgo_neg a b m (i + 1)
    · rw [if_pos h, if_neg (by omega), if_pos h]
theorem cgo_three (a b : Nat → Int) : ∀ m i, cgo a b m i = -1 ∨ cgo a b m i = 0 ∨ cgo a b m i = 1
  | 0, _ => .inr (.inl rfl)
  | m + 1, i => by
    unfold cgo
    by_cases h : a i < b i
    · rw [if_pos h]; exact .inl rfl
    · by_cases h2 : b i < a i
      · rw [if_neg h, if_pos h2]; exact .inr (.inr rfl)
      · rw [if_neg h, if_neg h2]; exact cgo_three a b m (i + 1)
theorem cgo_zero (a b : Nat → Int) : ∀ m i, cgo a b m i = 0 → ∀ k, i ≤ k → k < i + m → a k = b k
  | 0, _, _, k, h1, h2 => by omega
  | m + 1, i, h, k, h1, h2 => by
    unfold cgo at h
    by_cases hl : a i < b i
    · rw [if_pos hl] at h; omega
    · by_cases hg : b i < a i
      · rw [if_neg hl, if_pos hg] at h; omega
      · rw [if_neg hl, if_neg hg] at h
        by_cases hk : k = i
        · subst hk; omega
        · exact cgo_zero a b m (i + 1) h k (by omega) (by omega)
theorem cgo_trans (a b c : Nat → Int) : ∀ m i, cgo a b m i ≤ 0 → cgo b c m i ≤ 0 → cgo a c m i ≤ 0
  | 0, _, _, _ => by show (0 : Int) ≤ 0; omega
  | m + 1, i, h1, h2 => by
    unfold cgo at h1 h2 ⊢
    rcases Int.lt_trichotomy (a i) (b i) with h | h | h
    · rcases Int.lt_trichotomy (b i) (c i) with g | g | g
      · rw [if_pos (by omega)]; omega
      · rw [if_pos (by omega)]; omega
      · rw [if_neg (by omega), if_pos g] at h2; omega
    · rcases Int.lt_trichotomy (b i) (c i) with g | g | g
      · rw [if_pos (by omega)]; omega
      · rw [if_neg (by omega), if_neg (by omega)] at h1 h2 ⊢
        exact cgo_trans a b c m (i + 1) h1 h2
      · rw [if_neg (by omega), if_pos g] at h2; omega
    · rw [if_neg (by omega), if_pos h] at h1; omega

theorem gcmp_neg (na nb : Int) (a b : Nat → Int) : gcmp nb na b a = - gcmp na nb a b := by
  unfold gcmp
  rcases Int.lt_trichotomy na nb with h | h | h
  · rw [if_neg (by omega), if_pos h, if_pos h]; rfl
  · rw [if_neg (by omega), if_neg (by omega), if_neg (by omega), if_neg (by omega)]; exact cgo_neg a b 5 0
  · rw [if_pos h, if_neg (by omega), if_pos h]
theorem gcmp_three (na nb : Int) (a b : Nat → Int) : gcmp na nb a b = -1 ∨ gcmp na nb a b = 0 ∨ gcmp na nb a b = 1 := by
  unfold gcmp
  by_cases h : na < nb
  · rw [if_pos h]; exact .inl rfl
  · by_cases h2 : nb < na
    · rw [if_neg h, if_pos h2]; exact .inr (.inr rfl)
    · rw [if_neg h, if_neg h2]; exact cgo_three a b 5 0
theorem gcmp_zero {na nb : Int} {a b : Nat → Int} : gcmp na nb a b = 0 ↔ geqI na nb a b = true := by
  rw [geqI_iff]
  unfold gcmp
  constructor
  · intro h
    by_cases hl : na < nb
    · rw [if_pos hl] at h; omega
    · by_cases hg : nb < na
      · rw [if_neg hl, if_pos hg] at h; omega
      · rw [if_neg hl, if_neg hg] at h
        exact ⟨by omega, fun k hk => cgo_zero a b 5 0 h k (by omega) (by omega)⟩
  · rintro ⟨h, hk⟩
    rw [if_neg (by omega), if_neg (by omega)]
    exact cgo_same 5 0 (fun k _ h => hk k (by omega))
theorem gcmp_trans {na nb nc : Int} {a b c : Nat → Int} (h1 : gcmp na nb a b ≤ 0) (h2 : gcmp nb nc b c ≤ 0) : gcmp na nc a c ≤ 0 := by
  unfold gcmp at h1 h2 ⊢
  rcases Int.lt_trichotomy na nb with h | h | h
  · rcases Int.lt_trichotomy nb nc with g | g | g
    · rw [if_pos (by omega)]; omega
    · rw [if_pos (by omega)]; omega
    · rw [if_neg (by omega), if_pos g] at h2; omega
  · rcases Int.lt_trichotomy nb nc with g | g | g
    · rw [if_pos (by omega)]; omega
    · rw [if_neg (by omega), if_neg (by omega)] at h1 h2 ⊢
      exact cgo_trans a b c 5 0 h1 h2
    · rw [if_neg (by omega), if_pos g] at h2; omega
  · rw [if_neg (by omega), if_pos h] at h1; omega
end Go.Proofs.YtacnhklhimogkaaDoor
