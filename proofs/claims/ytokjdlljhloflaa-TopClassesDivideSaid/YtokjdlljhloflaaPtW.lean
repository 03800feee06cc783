/- Labels that are replaced by lesser ones as long as two differ that one of both puts together: they end as the join. -/
import Derived.Test.YtokjdlljhloflaaPtP
namespace Go.Proofs.Ytokjdlljhloflaa.Part
set_option linter.unusedVariables false
set_option linter.unusedSimpArgs false

def SoundQ (n : Nat) (a b q : Nat → Nat) : Prop := ∀ i j, i < n → j < n → q i = q j → Chain n a b i j
theorem soundq_id (n : Nat) (a b : Nat → Nat) : SoundQ n a b (fun i => i) := by
  intro i j _ _ e
  simp only at e
  subst e
  exact .refl _
/-- Both places get the lesser label. -/
def low2 (q : Nat → Nat) (i k : Nat) : Nat → Nat := upd (upd q i (min (q i) (q k))) k (min (q i) (q k))
theorem low2_at (q : Nat → Nat) (i k j : Nat) : low2 q i k j = if j = i ∨ j = k then min (q i) (q k) else q j := by
  unfold low2 upd
  by_cases h1 : j = k
  · rw [if_pos h1, if_pos (.inr h1)]
  · rw [if_neg h1]
    by_cases h2 : j = i
    · rw [if_pos h2, if_pos (.inl h2)]
    · rw [if_neg h2, if_neg (by intro h; rcases h with h | h; exact h2 h; exact h1 h)]
theorem SoundQ.step {n : Nat} {a b q : Nat → Nat} (h : SoundQ n a b q) {i k : Nat} (hi : i < n) (hk : k < n) (he : a i = a k ∨ b i = b k) : SoundQ n a b (low2 q i k) := by
  have hc : Chain n a b i k := by
    rcases he with e | e
    · exact .one hk e
    · exact .two hk e
  have hmem : ∀ j, j < n → (j = i ∨ j = k) → Chain n a b i j := by
    intro j hj h
    rcases h with rfl | rfl
    · exact .refl _
    · exact hc
  have hout : ∀ j, j < n → q j = min (q i) (q k) → Chain n a b i j := by
    intro j hj e
    rcases Nat.le_total (q i) (q k) with hl | hl
    · exact h i j hi hj (by rw [e]; omega)
    · exact hc.trans (h k j hk hj (by rw [e]; omega))
  intro x y hx hy e
  rw [low2_at, low2_at] at e
  by_cases h1 : x = i ∨ x = k
  · rw [if_pos h1] at e
    by_cases h2 : y = i ∨ y = k
    · exact ((hmem x hx h1).symm hi).trans (hmem y hy h2)
    · rw [if_neg h2] at e
      exact ((hmem x hx h1).symm hi).trans (hout y hy e.symm)
  · rw [if_neg h1] at e
    by_cases h2 : y = i ∨ y = k
    · rw [if_pos h2] at e
      exact ((hout x hx e).symm hi).trans (hmem y hy h2)
    · rw [if_neg h2] at e
      exact h x y hx hy e
def sumq (n : Nat) (q : Nat → Nat) : Nat := ((List.range n).map q).sum
theorem sumq_succ (n : Nat) (q : Nat → Nat) : sumq (n + 1) q = sumq n q + q n := by
  unfold sumq
  rw [List.range_succ, List.map_append, List.sum_append]
  simp
theorem sumq_le {q q' : Nat → Nat} : ∀ n, (∀ j, j < n → q' j ≤ q j) → sumq n q' ≤ sumq n q
  | 0, _ => Nat.le_refl _
  | n + 1, h => by
    rw [sumq_succ, sumq_succ]
    have h1 := sumq_le n (fun j hj => h j (by omega))
    have h2 := h n (by omega)
    omega
theorem sumq_lt {q q' : Nat → Nat} : ∀ n, (∀ j, j < n → q' j ≤ q j) → ∀ k, k < n → q' k < q k → sumq n q' < sumq n q
  | 0, _, k, hk, _ => absurd hk (Nat.not_lt_zero _)
  | n + 1, h, k, hk, hl => by
    rw [sumq_succ, sumq_succ]
    by_cases e : k = n
    · subst e
      have h1 := sumq_le k (fun j hj => h j (by omega))
      omega
    · have h1 := sumq_lt n (fun j hj => h j (by omega)) k (by omega) hl
      have h2 := h n (by omega)
      omega
theorem low2_lt {n : Nat} {q : Nat → Nat} {i k : Nat} (hi : i < n) (hk : k < n) (hne : q i ≠ q k) : sumq n (low2 q i k) < sumq n q := by
  have hle : ∀ j, j < n → low2 q i k j ≤ q j := by
    intro j _
    rw [low2_at]
    by_cases h : j = i ∨ j = k
    · rw [if_pos h]
      rcases h with rfl | rfl <;> omega
    · rw [if_neg h]
      exact Nat.le_refl _
  rcases Nat.lt_or_ge (q i) (q k) with hl | hl
  · exact sumq_lt n hle k hk (by rw [low2_at, if_pos (.inr rfl)]; omega)
  · exact sumq_lt n hle i hi (by rw [low2_at, if_pos (.inl rfl)]; omega)
/-- Up to place i, what one of both puts together has one label. -/
def FairQ (a b q : Nat → Nat) (i : Nat) : Prop := ∀ x, x < i → ∀ y, y < x → a x = a y ∨ b x = b y → q x = q y
def FairQIn (a b q : Nat → Nat) (i k : Nat) : Prop := ∀ y, y < k → a i = a y ∨ b i = b y → q i = q y
theorem FairQ.step {a b q : Nat → Nat} {i : Nat} (h : FairQ a b q i) (h' : FairQIn a b q i i) : FairQ a b q (i + 1) := fun x hx y hy e => by
  by_cases hxi : x = i
  · subst hxi; exact h' y hy e
  · exact h x (by omega) y hy e
theorem glue_done {n : Nat} {a b q : Nat → Nat} (h : SoundQ n a b q) (hf : FairQ a b q n) : IsJoin n a b (lab fun i => ((q i : Int), (0 : Int))) := by
  have key : ∀ i j, i < n → j < n → a i = a j ∨ b i = b j → q i = q j := by
    intro i j hi hj e
    rcases Nat.lt_trichotomy i j with h | h | h
    · exact (hf j hj i h (e.imp Eq.symm Eq.symm)).symm
    · rw [h]
    · exact hf i hi j h e
  refine ⟨lab_wf _ n, fun i j hi hj => (lab_eq _ i j).trans ⟨fun e => h i j hi hj (by have := congrArg Prod.fst e; simp only at this; omega), fun hc => ?_⟩⟩
  have := hc.keeps q hi (fun i j hi hj e => key i j hi hj (.inl e)) (fun i j hi hj e => key i j hi hj (.inr e))
  rw [this]
end Go.Proofs.Ytokjdlljhloflaa.Part
