/- The first places of classes; one union a place gives the join. -/
import Derived.Test.YtokjdlljhloflaaPtO
namespace Go.Proofs.Ytokjdlljhloflaa.Part
set_option linter.unusedVariables false
set_option linter.unusedSimpArgs false

/-- The first places of the classes ahead of place i. -/
def lst (a : Nat → Nat) : Nat → List Nat
  | 0 => []
  | i + 1 => if a i = cnt a i then lst a i ++ [i] else lst a i
theorem lst_len (a : Nat → Nat) : ∀ i, (lst a i).length = cnt a i
  | 0 => rfl
  | i + 1 => by
    show (if a i = cnt a i then lst a i ++ [i] else lst a i).length = (if a i = cnt a i then cnt a i + 1 else cnt a i)
    split <;> simp [lst_len a i]
theorem lst_grows (a : Nat → Nat) {i j : Nat} (h : i ≤ j) : ∃ t, lst a j = lst a i ++ t := by
  obtain ⟨d, rfl⟩ := Nat.exists_eq_add_of_le h
  clear h
  induction d with
  | zero => exact ⟨[], by simp⟩
  | succ d ih =>
    obtain ⟨t, ht⟩ := ih
    show ∃ t, (if a (i + d) = cnt a (i + d) then lst a (i + d) ++ [i + d] else lst a (i + d)) = lst a i ++ t
    split
    · exact ⟨t ++ [i + d], by rw [ht, List.append_assoc]⟩
    · exact ⟨t, ht⟩
theorem lst_get (a : Nat → Nat) : ∀ i v, v < cnt a i → ∃ k, (lst a i)[v]? = some k ∧ k < i ∧ a k = v
  | 0, v, h => absurd h (Nat.not_lt_zero _)
  | i + 1, v, h => by
    have hl := lst_len a i
    have hc : cnt a (i + 1) = if a i = cnt a i then cnt a i + 1 else cnt a i := rfl
    have e : lst a (i + 1) = if a i = cnt a i then lst a i ++ [i] else lst a i := rfl
    rw [e]
    rw [hc] at h
    by_cases he : a i = cnt a i
    · rw [if_pos he] at h ⊢
      by_cases hv : v < cnt a i
      · obtain ⟨k, h1, h2, h3⟩ := lst_get a i v hv
        exact ⟨k, by rw [List.getElem?_append_left (by omega)]; exact h1, by omega, h3⟩
      · have hv2 : v = cnt a i := by omega
        refine ⟨i, ?_, by omega, by omega⟩
        rw [List.getElem?_append_right (by omega), hv2, hl]
        simp
    · rw [if_neg he] at h ⊢
      obtain ⟨k, h1, h2, h3⟩ := lst_get a i v h
      exact ⟨k, h1, by omega, h3⟩
/-- The first place of the class of place i. -/
def fst (a : Nat → Nat) (i : Nat) : Nat := ((lst a (i + 1))[a i]?).getD 0
theorem fst_of {n : Nat} {a : Nat → Nat} (h : Wf n a) {i : Nat} (hi : i < n) : (lst a (i + 1))[a i]? = some (fst a i) ∧ fst a i ≤ i ∧ a (fst a i) = a i := by
  obtain ⟨k, h1, h2, h3⟩ := lst_get a (i + 1) (a i) (lt_cnt h (by omega) (by omega))
  have e : fst a i = k := by unfold fst; rw [h1]; rfl
  rw [e]
  exact ⟨h1, by omega, h3⟩
theorem fst_eq {n : Nat} {a : Nat → Nat} (h : Wf n a) {i j : Nat} (hi : i < n) (hj : j < n) (e : a i = a j) : fst a i = fst a j := by
  have key : ∀ i j, i ≤ j → i < n → j < n → a i = a j → fst a i = fst a j := by
    intro i j hij hi hj e
    have h1 := (fst_of h hi).1
    have h2 := (fst_of h hj).1
    obtain ⟨t, ht⟩ := lst_grows a (show i + 1 ≤ j + 1 by omega)
    rw [ht, ← e, List.getElem?_append_left (List.getElem?_eq_some_iff.1 h1).1, h1] at h2
    exact Option.some.inj h2
  rcases Nat.le_total i j with hl | hl
  · exact key i j hl hi hj e
  · exact (key j i hl hj hi e.symm).symm
/-- Up to place i, each place has the root of the first of its class. -/
def Done (a p : Nat → Nat) (i : Nat) : Prop := ∀ j, j < i → root p j = root p (fst a j)
theorem Done.zero (a p : Nat → Nat) : Done a p 0 := fun j h => absurd h (Nat.not_lt_zero _)
theorem Done.keeps {a p : Nat → Nat} {i : Nat} (h : Done a p i) (x y : Nat) : Done a (uni p x y) i := fun j hj => uni_keeps x y (h j hj)
theorem Done.step {a p : Nat → Nat} {i : Nat} (h : Done a p i) : Done a (uni p (fst a i) i) (i + 1) := fun j hj => by
  by_cases e : j = i
  · subst e; exact (uni_joined p _ _).symm
  · exact h.keeps _ _ j (by omega)
theorem Done.roots {a p q : Nat → Nat} {i : Nat} (h : Done a p i) (e : ∀ j, root q j = root p j) : Done a q i := fun j hj => by rw [e, e]; exact h j hj
theorem Sound.roots {n : Nat} {a b p q : Nat → Nat} (h : Sound n a b p) (e : ∀ j, root q j = root p j) : Sound n a b q := fun i j hi hj he => h i j hi hj (by rw [← e, ← e]; exact he)
theorem join_done {n : Nat} {a b p : Nat → Nat} (wa : Wf n a) (wb : Wf n b) (h : Sound n a b p) (ha : Done a p n) (hb : Done b p n) : IsJoin n a b (lab fun i => ((root p i : Int), (0 : Int))) := by
  have hj := join_of h ha hb (fun i j hi hj e => fst_eq wa hi hj e) (fun i j hi hj e => fst_eq wb hi hj e)
  refine ⟨lab_wf _ n, fun i j hi hj' => ?_⟩
  rw [← hj.2 i j hi hj', lab_eq, lab_eq]
  exact ⟨fun e => by have := congrArg Prod.fst e; simp only at this; omega, fun e => by rw [e]⟩
end Go.Proofs.Ytokjdlljhloflaa.Part
