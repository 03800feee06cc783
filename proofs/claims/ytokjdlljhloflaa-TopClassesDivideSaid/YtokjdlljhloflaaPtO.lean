/- Joining classes step by step gives the join. -/
import Derived.Test.YtokjdlljhloflaaPtN
namespace Go.Proofs.Ytokjdlljhloflaa.Part
set_option linter.unusedVariables false
set_option linter.unusedSimpArgs false

/-- Places with one root are joined by a chain. -/
def Sound (n : Nat) (a b : Nat → Nat) (p : Nat → Nat) : Prop := ∀ i j, i < n → j < n → root p i = root p j → Chain n a b i j
theorem root_id (i : Nat) : root (fun i => i) i = i := root_top _ (Nat.lt_irrefl i)
theorem sound_id (n : Nat) (a b : Nat → Nat) : Sound n a b (fun i => i) := by
  intro i j _ _ h
  rw [root_id, root_id] at h
  rw [h]; exact .refl _
theorem low_id (n : Nat) : Low n (fun i => i) := fun _ _ => Nat.le_refl _
/-- Two roots made one. -/
def uni (p : Nat → Nat) (x y : Nat) : Nat → Nat := upd p (max (root p x) (root p y)) (min (root p x) (root p y))
theorem uni_low {n : Nat} {p : Nat → Nat} (hp : Low n p) (x y : Nat) : Low n (uni p x y) := upd_low hp (by omega)
theorem uni_root (p : Nat → Nat) (x y i : Nat) : root (uni p x y) i = if root p i = root p x ∨ root p i = root p y then min (root p x) (root p y) else root p i := by
  unfold uni
  rcases Nat.lt_trichotomy (root p x) (root p y) with h | h | h
  · rw [show max (root p x) (root p y) = root p y by omega, show min (root p x) (root p y) = root p x by omega, root_join h (root_root p y) (root_root p x)]
    by_cases h1 : root p i = root p y
    · rw [if_pos h1, if_pos (.inr h1)]
    · rw [if_neg h1]
      by_cases h2 : root p i = root p x
      · rw [if_pos (.inl h2), h2]
      · rw [if_neg (by rintro (e | e); exact h2 e; exact h1 e)]
  · rw [← h, Nat.max_self, Nat.min_self, root_hang (Nat.le_refl _) rfl (.inr (root_fix p x))]
    by_cases h2 : root p i = root p x
    · rw [if_pos (.inl h2), h2]
    · rw [if_neg (by rintro (e | e) <;> exact h2 e)]
  · rw [show max (root p x) (root p y) = root p x by omega, show min (root p x) (root p y) = root p y by omega, root_join h (root_root p x) (root_root p y)]
    by_cases h1 : root p i = root p x
    · rw [if_pos h1, if_pos (.inl h1)]
    · rw [if_neg h1]
      by_cases h2 : root p i = root p y
      · rw [if_pos (.inr h2), h2]
      · rw [if_neg (by rintro (e | e); exact h1 e; exact h2 e)]
theorem uni_keeps {p : Nat → Nat} (x y : Nat) {i j : Nat} (h : root p i = root p j) : root (uni p x y) i = root (uni p x y) j := by
  rw [uni_root, uni_root, h]
theorem uni_joined (p : Nat → Nat) (x y : Nat) : root (uni p x y) x = root (uni p x y) y := by
  rw [uni_root, uni_root, if_pos (.inl rfl), if_pos (.inr rfl)]
theorem uni_sound {n : Nat} {a b p : Nat → Nat} (h : Sound n a b p) {x y : Nat} (hx : x < n) (hy : y < n) (hc : Chain n a b x y) : Sound n a b (uni p x y) := by
  intro i j hi hj he
  rw [uni_root, uni_root] at he
  have hyx := hc.symm hx
  by_cases h1 : root p i = root p x ∨ root p i = root p y
  · by_cases h2 : root p j = root p x ∨ root p j = root p y
    · have ci : Chain n a b i x := by
        rcases h1 with e | e
        · exact h i x hi hx e
        · exact (h i y hi hy e).trans hyx
      have cj : Chain n a b x j := by
        rcases h2 with e | e
        · exact h x j hx hj e.symm
        · exact hc.trans (h y j hy hj e.symm)
      exact ci.trans cj
    · rw [if_pos h1, if_neg h2] at he
      exfalso
      apply h2
      rcases Nat.le_total (root p x) (root p y) with hl | hl
      · left; rw [← he]; omega
      · right; rw [← he]; omega
  · by_cases h2 : root p j = root p x ∨ root p j = root p y
    · rw [if_neg h1, if_pos h2] at he
      exfalso
      apply h1
      rcases Nat.le_total (root p x) (root p y) with hl | hl
      · left; rw [he]; omega
      · right; rw [he]; omega
    · rw [if_neg h1, if_neg h2] at he
      exact h i j hi hj he
/-- Halving a path keeps the roots. -/
theorem root_halve {n : Nat} {p : Nat → Nat} (hp : Low n p) {i : Nat} (hi : i < n) (h : p i ≠ i) : ∀ j, root (upd p i (p (p i))) j = root p j := by
  have h1 := hp i hi
  have h2 := hp (p i) (by omega)
  refine root_hang (by omega) ?_ (.inl (by omega))
  rw [root_parent hp (by omega), root_parent hp hi]
/-- THE LABELS OF THE ROOTS ARE THE JOIN, once each place has the root of its class's least place, for both vectors. -/
theorem join_of {n : Nat} {a b p la lb : Nat → Nat} (h : Sound n a b p) (ha : ∀ i, i < n → root p i = root p (la i)) (hb : ∀ i, i < n → root p i = root p (lb i))
    (ea : ∀ i j, i < n → j < n → a i = a j → la i = la j) (eb : ∀ i j, i < n → j < n → b i = b j → lb i = lb j) : IsJoin n a b (lab (root p)) := by
  refine ⟨lab_wf _ n, fun i j hi hj => (lab_eq _ i j).trans ⟨h i j hi hj, fun hc => ?_⟩⟩
  exact hc.keeps (root p) hi (fun i j hi hj e => by rw [ha i hi, ha j hj, ea i j hi hj e]) (fun i j hi hj e => by rw [hb i hi, hb j hj, eb i j hi hj e])
/-- The labels depend on the roots alone: two ways of joining give the same labels. -/
theorem lab_congr {κ κ' : Nat → Nat} {n : Nat} (h : ∀ i, i < n → κ i = κ' i) : ∀ i, i < n → lab κ i = lab κ' i :=
  wf_unique (lab_wf κ n) (lab_wf κ' n) (fun i j hi hj => by rw [lab_eq, lab_eq, h i hi, h j hj])
end Go.Proofs.Ytokjdlljhloflaa.Part
