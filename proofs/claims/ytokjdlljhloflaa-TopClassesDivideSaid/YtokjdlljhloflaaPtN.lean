/- Numbering keys in the order in which they occur; the least places of classes joined step by step. -/
import Derived.Test.YtokjdlljhloflaaPtM
namespace Go.Proofs.Ytokjdlljhloflaa.Part
set_option linter.unusedVariables false
set_option linter.unusedSimpArgs false
variable {K : Type} [DecidableEq K]

/-- The different keys ahead of place i, in the order in which they occur. -/
def ds (κ : Nat → K) : Nat → List K
  | 0 => []
  | i + 1 => if κ i ∈ ds κ i then ds κ i else ds κ i ++ [κ i]
/-- The place of a key in a list. -/
def ix (l : List K) (x : K) : Nat := l.idxOf x
theorem ix_old {l : List K} {x y : K} (h : y ∈ l) : ix (l ++ [x]) y = ix l y := by
  unfold ix; rw [List.idxOf_append, if_pos h]
theorem ix_new {l : List K} {x : K} (h : x ∉ l) : ix (l ++ [x]) x = l.length := by
  unfold ix; rw [List.idxOf_append, if_neg h]; simp
/-- The number of the key of place i. -/
def lab (κ : Nat → K) (i : Nat) : Nat := (ds κ (i + 1)).idxOf (κ i)
theorem ds_succ (κ : Nat → K) (i : Nat) : ds κ (i + 1) = if κ i ∈ ds κ i then ds κ i else ds κ i ++ [κ i] := rfl
theorem ds_grows (κ : Nat → K) {i j : Nat} (h : i ≤ j) : ∃ t, ds κ j = ds κ i ++ t := by
  induction h with
  | refl => exact ⟨[], by simp⟩
  | step _ ih =>
    obtain ⟨t, ht⟩ := ih
    rw [ds_succ]
    split
    · exact ⟨t, ht⟩
    · exact ⟨t ++ [_], by rw [ht, List.append_assoc]⟩
theorem mem_ds (κ : Nat → K) (i : Nat) : κ i ∈ ds κ (i + 1) := by
  rw [ds_succ]
  split
  · assumption
  · simp
theorem lab_at (κ : Nat → K) {i j : Nat} (h : i < j) : (ds κ j).idxOf (κ i) = lab κ i := by
  obtain ⟨t, ht⟩ := ds_grows κ (show i + 1 ≤ j from h)
  rw [ht, List.idxOf_append, if_pos (mem_ds κ i)]
  rfl
theorem mem_ds_of (κ : Nat → K) {i j : Nat} (h : i < j) : κ i ∈ ds κ j := by
  obtain ⟨t, ht⟩ := ds_grows κ (show i + 1 ≤ j from h)
  rw [ht]
  exact List.mem_append_left _ (mem_ds κ i)
theorem idxOf_inj {l : List K} {x y : K} (hx : x ∈ l) (hy : y ∈ l) (h : l.idxOf x = l.idxOf y) : x = y := by
  have h1 := List.getElem_idxOf (List.idxOf_lt_length_of_mem hx)
  have h2 := List.getElem_idxOf (List.idxOf_lt_length_of_mem hy)
  rw [← h1, ← h2]
  simp only [h]
/-- EQUAL NUMBERS ARE EQUAL KEYS. -/
theorem lab_eq (κ : Nat → K) (i j : Nat) : lab κ i = lab κ j ↔ κ i = κ j := by
  have h1 : i < max i j + 1 := by omega
  have h2 : j < max i j + 1 := by omega
  rw [← lab_at κ h1, ← lab_at κ h2]
  exact ⟨idxOf_inj (mem_ds_of κ h1) (mem_ds_of κ h2), fun e => by rw [e]⟩
theorem lab_old (κ : Nat → K) {i : Nat} (h : κ i ∈ ds κ i) : lab κ i < (ds κ i).length := by
  unfold lab
  rw [ds_succ, if_pos h]
  exact List.idxOf_lt_length_of_mem h
theorem lab_new (κ : Nat → K) {i : Nat} (h : κ i ∉ ds κ i) : lab κ i = (ds κ i).length := by
  unfold lab
  rw [ds_succ, if_neg h, List.idxOf_append, if_neg h]
  simp
theorem cnt_lab (κ : Nat → K) : ∀ i, cnt (lab κ) i = (ds κ i).length
  | 0 => rfl
  | i + 1 => by
    have ih := cnt_lab κ i
    show (if lab κ i = cnt (lab κ) i then cnt (lab κ) i + 1 else cnt (lab κ) i) = _
    rw [ih, ds_succ]
    by_cases h : κ i ∈ ds κ i
    · rw [if_pos h, if_neg (by have := lab_old κ h; omega)]
    · rw [if_neg h, if_pos (lab_new κ h)]
      simp
theorem lab_wf (κ : Nat → K) (n : Nat) : Wf n (lab κ) := by
  intro i _
  rw [cnt_lab]
  by_cases h : κ i ∈ ds κ i
  · exact Nat.le_of_lt (lab_old κ h)
  · exact Nat.le_of_eq (lab_new κ h)
/-- The labels of pairs of labels are the meet. -/
theorem lab_meet (n : Nat) (a b : Nat → Nat) : IsMeet n a b (lab fun i => (a i, b i)) :=
  ⟨lab_wf _ n, fun i j _ _ => (lab_eq _ i j).trans ⟨fun e => ⟨congrArg Prod.fst e, congrArg Prod.snd e⟩, fun e => by simp [e.1, e.2]⟩⟩
/-- A well-formed vector is the vector of its own labels. -/
theorem lab_self {n : Nat} {a : Nat → Nat} (h : Wf n a) : ∀ i, i < n → lab a i = a i :=
  wf_unique (lab_wf a n) h (fun i j _ _ => lab_eq a i j)
/-- Other names make no difference. -/
theorem lab_names {n : Nat} {a : Nat → Nat} (h : Wf n a) {κ : Nat → K} (he : ∀ i j, i < n → j < n → (κ i = κ j ↔ a i = a j)) : ∀ i, i < n → lab κ i = a i :=
  wf_unique (lab_wf κ n) h (fun i j hi hj => (lab_eq κ i j).trans (he i j hi hj))

/-- Parents: each place's parent is no later place. -/
def Low (n : Nat) (p : Nat → Nat) : Prop := ∀ i, i < n → p i ≤ i
/-- The least place of the class of a place. -/
def root (p : Nat → Nat) (i : Nat) : Nat := if h : p i < i then root p (p i) else i
termination_by i
theorem root_up (p : Nat → Nat) {i : Nat} (h : p i < i) : root p i = root p (p i) := by
  rw [root, dif_pos h]
theorem root_top (p : Nat → Nat) {i : Nat} (h : ¬ p i < i) : root p i = i := by
  rw [root, dif_neg h]
theorem root_parent {n : Nat} {p : Nat → Nat} (hp : Low n p) {i : Nat} (hi : i < n) : root p (p i) = root p i := by
  by_cases h : p i < i
  · exact (root_up p h).symm
  · have := hp i hi
    rw [show p i = i by omega]
theorem root_le (p : Nat → Nat) : ∀ i, root p i ≤ i := by
  intro i
  induction i using Nat.strongRecOn with
  | ind i ih =>
    by_cases h : p i < i
    · rw [root_up p h]; exact Nat.le_trans (ih _ h) (Nat.le_of_lt h)
    · rw [root_top p h]; exact Nat.le_refl _
theorem root_fix (p : Nat → Nat) : ∀ i, ¬ p (root p i) < root p i := by
  intro i
  induction i using Nat.strongRecOn with
  | ind i ih =>
    by_cases h : p i < i
    · rw [root_up p h]; exact ih _ h
    · rw [root_top p h]; exact h
theorem root_root (p : Nat → Nat) (i : Nat) : root p (root p i) = root p i := root_top p (root_fix p i)
/-- One place's parent set anew. -/
def upd (p : Nat → Nat) (x v : Nat) : Nat → Nat := fun i => if i = x then v else p i
theorem upd_low {n : Nat} {p : Nat → Nat} (hp : Low n p) {x v : Nat} (hv : v ≤ x) : Low n (upd p x v) := by
  intro i hi
  unfold upd
  split
  · omega
  · exact hp i hi
/-- A place hung to another one of its class: the roots stay. -/
theorem root_hang {p : Nat → Nat} {x v : Nat} (hv : v ≤ x) (hr : root p v = root p x) (hx : v < x ∨ ¬ p x < x) : ∀ i, root (upd p x v) i = root p i := by
  intro i
  induction i using Nat.strongRecOn with
  | ind i ih =>
    by_cases hix : i = x
    · subst hix
      by_cases hvi : v < i
      · rw [root_up _ (show upd p i v i < i by unfold upd; rw [if_pos rfl]; exact hvi)]
        have e : upd p i v i = v := by unfold upd; rw [if_pos rfl]
        rw [e, ih v hvi, hr]
      · rw [root_top _ (show ¬ upd p i v i < i by unfold upd; rw [if_pos rfl]; exact hvi), root_top p (by rcases hx with h | h; exact absurd h hvi; exact h)]
    · have e : upd p x v i = p i := by unfold upd; rw [if_neg hix]
      by_cases h : p i < i
      · rw [root_up _ (show upd p x v i < i by rw [e]; exact h), e, ih _ h, root_up p h]
      · rw [root_top _ (show ¬ upd p x v i < i by rw [e]; exact h), root_top p h]
/-- A root hung to a lesser root: two classes have become one. -/
theorem root_join {p : Nat → Nat} {x v : Nat} (hv : v < x) (hx : root p x = x) (hvr : root p v = v) : ∀ i, root (upd p x v) i = if root p i = x then v else root p i := by
  intro i
  have hpx : ¬ p x < x := by have := root_fix p x; rw [hx] at this; exact this
  induction i using Nat.strongRecOn with
  | ind i ih =>
    by_cases hix : i = x
    · subst hix
      have e : upd p i v i = v := by unfold upd; rw [if_pos rfl]
      rw [root_up _ (show upd p i v i < i by rw [e]; exact hv), e, ih v hv, hx, if_pos rfl, hvr, if_neg (by omega)]
    · have e : upd p x v i = p i := by unfold upd; rw [if_neg hix]
      by_cases h : p i < i
      · rw [root_up _ (show upd p x v i < i by rw [e]; exact h), e, ih _ h, root_up p h]
      · rw [root_top _ (show ¬ upd p x v i < i by rw [e]; exact h), root_top p h, if_neg hix]
end Go.Proofs.Ytokjdlljhloflaa.Part
