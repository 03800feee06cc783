/- Partitions as label vectors, in plain numbers: a well-formed vector is given by which places bear the same label. -/
namespace Go.Proofs.Ytokjdlljhloflaa.Part
set_option linter.unusedVariables false
set_option linter.unusedSimpArgs false

/-- The number of labels ahead of place i. -/
def cnt (a : Nat → Nat) : Nat → Nat
  | 0 => 0
  | i + 1 => if a i = cnt a i then cnt a i + 1 else cnt a i
/-- A well-formed vector of n labels. -/
def Wf (n : Nat) (a : Nat → Nat) : Prop := ∀ i, i < n → a i ≤ cnt a i
theorem cnt_mono (a : Nat → Nat) (i : Nat) : cnt a i ≤ cnt a (i + 1) := by
  show _ ≤ if a i = cnt a i then cnt a i + 1 else cnt a i
  split <;> omega
theorem cnt_le (a : Nat → Nat) {i j : Nat} (h : i ≤ j) : cnt a i ≤ cnt a j := by
  induction h with
  | refl => exact Nat.le_refl _
  | step _ ih => exact Nat.le_trans ih (cnt_mono a _)
theorem lt_cnt {n : Nat} {a : Nat → Nat} (h : Wf n a) {k i : Nat} (hk : k < i) (hi : i ≤ n) : a k < cnt a i := by
  have h1 := h k (by omega)
  have h2 : a k < cnt a (k + 1) := by
    show _ < if a k = cnt a k then cnt a k + 1 else cnt a k
    split <;> omega
  exact Nat.lt_of_lt_of_le h2 (cnt_le a hk)
theorem cnt_occ (a : Nat → Nat) : ∀ (i v : Nat), v < cnt a i → ∃ k, k < i ∧ a k = v
  | 0, v, h => by simp [cnt] at h
  | i + 1, v, h => by
    have e : cnt a (i + 1) = if a i = cnt a i then cnt a i + 1 else cnt a i := rfl
    rw [e] at h
    by_cases hv : v < cnt a i
    · obtain ⟨k, hk, h2⟩ := cnt_occ a i v hv
      exact ⟨k, by omega, h2⟩
    · by_cases hc : a i = cnt a i
      · rw [if_pos hc] at h
        exact ⟨i, by omega, by omega⟩
      · rw [if_neg hc] at h
        omega
theorem cnt_congr {a b : Nat → Nat} : ∀ {i : Nat}, (∀ k, k < i → a k = b k) → cnt a i = cnt b i
  | 0, _ => rfl
  | i + 1, h => by
    have ih := cnt_congr (i := i) (fun k hk => h k (by omega))
    show (if a i = cnt a i then cnt a i + 1 else cnt a i) = if b i = cnt b i then cnt b i + 1 else cnt b i
    rw [ih, h i (by omega)]
/-- A place whose label is not among those ahead of it bears the next number. -/
theorem new_label {n : Nat} {a : Nat → Nat} (h : Wf n a) {i : Nat} (hi : i < n) (hn : ∀ k, k < i → a k ≠ a i) : a i = cnt a i := by
  have h1 := h i hi
  rcases Nat.lt_or_ge (a i) (cnt a i) with h2 | h2
  · obtain ⟨k, hk, e⟩ := cnt_occ a i (a i) h2
    exact absurd e (hn k hk)
  · omega
/-- WELL-FORMED VECTORS WITH THE SAME CLASSES ARE EQUAL. -/
theorem wf_unique {n : Nat} {a b : Nat → Nat} (ha : Wf n a) (hb : Wf n b) (h : ∀ i j, i < n → j < n → (a i = a j ↔ b i = b j)) : ∀ i, i < n → a i = b i := by
  intro i
  induction i using Nat.strongRecOn with
  | ind i ih =>
    intro hi
    by_cases hx : ∃ k, k < i ∧ a k = a i
    · obtain ⟨k, hk, e⟩ := hx
      have e2 := (h k i (by omega) hi).1 e
      rw [← e, ← e2]
      exact ih k hk (by omega)
    · have hna : ∀ k, k < i → a k ≠ a i := fun k hk e => hx ⟨k, hk, e⟩
      have hnb : ∀ k, k < i → b k ≠ b i := fun k hk e => hx ⟨k, hk, (h k i (by omega) hi).2 e⟩
      rw [new_label ha hi hna, new_label hb hi hnb]
      exact cnt_congr (fun k hk => ih k hk (by omega))

/-- The relation of a vector. -/
def ker (a : Nat → Nat) (i j : Nat) : Prop := a i = a j
/-- A vector m is the meet of a and b. -/
def IsMeet (n : Nat) (a b m : Nat → Nat) : Prop := Wf n m ∧ ∀ i j, i < n → j < n → (m i = m j ↔ a i = a j ∧ b i = b j)
/-- Places that a chain of a's and b's classes joins. -/
inductive Chain (n : Nat) (a b : Nat → Nat) : Nat → Nat → Prop where
  | refl (i : Nat) : Chain n a b i i
  | left {i j k : Nat} : j < n → a i = a j → Chain n a b j k → Chain n a b i k
  | right {i j k : Nat} : j < n → b i = b j → Chain n a b j k → Chain n a b i k
def IsJoin (n : Nat) (a b m : Nat → Nat) : Prop := Wf n m ∧ ∀ i j, i < n → j < n → (m i = m j ↔ Chain n a b i j)
theorem Chain.trans {n : Nat} {a b : Nat → Nat} {i j k : Nat} (h : Chain n a b i j) (h2 : Chain n a b j k) : Chain n a b i k := by
  induction h with
  | refl => exact h2
  | left hj e _ ih => exact .left hj e (ih h2)
  | right hj e _ ih => exact .right hj e (ih h2)
theorem Chain.one {n : Nat} {a b : Nat → Nat} {i j : Nat} (hj : j < n) (h : a i = a j) : Chain n a b i j := .left hj h (.refl j)
theorem Chain.two {n : Nat} {a b : Nat → Nat} {i j : Nat} (hj : j < n) (h : b i = b j) : Chain n a b i j := .right hj h (.refl j)
theorem Chain.symm {n : Nat} {a b : Nat → Nat} {i j : Nat} (h : Chain n a b i j) (hi : i < n) : Chain n a b j i := by
  induction h with
  | refl => exact .refl _
  | left hj e _ ih => exact (ih hj).trans (.one hi e.symm)
  | right hj e _ ih => exact (ih hj).trans (.two hi e.symm)
theorem Chain.swap {n : Nat} {a b : Nat → Nat} {i j : Nat} (h : Chain n a b i j) : Chain n b a i j := by
  induction h with
  | refl => exact .refl _
  | left hj e _ ih => exact .right hj e ih
  | right hj e _ ih => exact .left hj e ih
/-- What both relations keep, the chain keeps. -/
theorem Chain.keeps {n : Nat} {a b : Nat → Nat} {i j : Nat} (h : Chain n a b i j) (c : Nat → Nat) (hi : i < n) (ha : ∀ i j, i < n → j < n → a i = a j → c i = c j) (hb : ∀ i j, i < n → j < n → b i = b j → c i = c j) : c i = c j := by
  induction h with
  | refl => rfl
  | left hj e _ ih => exact (ha _ _ hi hj e).trans (ih hj)
  | right hj e _ ih => exact (hb _ _ hi hj e).trans (ih hj)
theorem meet_unique {n : Nat} {a b m m' : Nat → Nat} (h : IsMeet n a b m) (h' : IsMeet n a b m') : ∀ i, i < n → m i = m' i :=
  wf_unique h.1 h'.1 (fun i j hi hj => (h.2 i j hi hj).trans (h'.2 i j hi hj).symm)
theorem join_unique {n : Nat} {a b m m' : Nat → Nat} (h : IsJoin n a b m) (h' : IsJoin n a b m') : ∀ i, i < n → m i = m' i :=
  wf_unique h.1 h'.1 (fun i j hi hj => (h.2 i j hi hj).trans (h'.2 i j hi hj).symm)
theorem meet_comm {n : Nat} {a b m : Nat → Nat} (h : IsMeet n a b m) : IsMeet n b a m := ⟨h.1, fun i j hi hj => (h.2 i j hi hj).trans ⟨fun e => ⟨e.2, e.1⟩, fun e => ⟨e.2, e.1⟩⟩⟩
theorem join_comm {n : Nat} {a b m : Nat → Nat} (h : IsJoin n a b m) : IsJoin n b a m := ⟨h.1, fun i j hi hj => (h.2 i j hi hj).trans ⟨Chain.swap, Chain.swap⟩⟩
theorem meet_idem {n : Nat} {a : Nat → Nat} (h : Wf n a) : IsMeet n a a a := ⟨h, fun i j _ _ => ⟨fun e => ⟨e, e⟩, fun e => e.1⟩⟩
theorem join_idem {n : Nat} {a : Nat → Nat} (h : Wf n a) : IsJoin n a a a := ⟨h, fun i j hi hj => ⟨fun e => .one hj e, fun e => e.keeps a hi (fun _ _ _ _ e => e) (fun _ _ _ _ e => e)⟩⟩
/-- a ∨ (a ∧ b) = a. -/
theorem join_absorbs {n : Nat} {a b m : Nat → Nat} (ha : Wf n a) (h : IsMeet n a b m) : IsJoin n a m a :=
  ⟨ha, fun i j hi hj => ⟨fun e => .one hj e, fun e => e.keeps a hi (fun _ _ _ _ e => e) (fun i j hi hj e => ((h.2 i j hi hj).1 e).1)⟩⟩
/-- a ∧ (a ∨ b) = a. -/
theorem meet_absorbs {n : Nat} {a b m : Nat → Nat} (ha : Wf n a) (h : IsJoin n a b m) : IsMeet n a m a :=
  ⟨ha, fun i j hi hj => ⟨fun e => ⟨e, (h.2 i j hi hj).2 (.one hj e)⟩, fun e => e.1⟩⟩
theorem meet_assoc {n : Nat} {a b c ab bc x y : Nat → Nat} (h1 : IsMeet n a b ab) (h2 : IsMeet n b c bc) (h3 : IsMeet n ab c x) (h4 : IsMeet n a bc y) : ∀ i, i < n → x i = y i :=
  wf_unique h3.1 h4.1 (fun i j hi hj => by
    rw [h3.2 i j hi hj, h4.2 i j hi hj, h1.2 i j hi hj, h2.2 i j hi hj]
    exact and_assoc)
theorem join_assoc {n : Nat} {a b c ab bc x y : Nat → Nat} (h1 : IsJoin n a b ab) (h2 : IsJoin n b c bc) (h3 : IsJoin n ab c x) (h4 : IsJoin n a bc y) : ∀ i, i < n → x i = y i := by
  refine wf_unique h3.1 h4.1 (fun i j hi hj => ⟨fun e => ?_, fun e => ?_⟩)
  · refine ((h3.2 i j hi hj).1 e).keeps y hi (fun i j hi hj e => ?_) (fun i j hi hj e => ?_)
    · refine ((h1.2 i j hi hj).1 e).keeps y hi (fun i j hi hj e => (h4.2 i j hi hj).2 (.one hj e)) (fun i j hi hj e => (h4.2 i j hi hj).2 (.two hj ((h2.2 i j hi hj).2 (.one hj e))))
    · exact (h4.2 i j hi hj).2 (.two hj ((h2.2 i j hi hj).2 (.two hj e)))
  · refine ((h4.2 i j hi hj).1 e).keeps x hi (fun i j hi hj e => ?_) (fun i j hi hj e => ?_)
    · exact (h3.2 i j hi hj).2 (.one hj ((h1.2 i j hi hj).2 (.one hj e)))
    · refine ((h2.2 i j hi hj).1 e).keeps x hi (fun i j hi hj e => (h3.2 i j hi hj).2 (.one hj ((h1.2 i j hi hj).2 (.two hj e)))) (fun i j hi hj e => (h3.2 i j hi hj).2 (.two hj e))
/-- a is finer than b. -/
def Fine (n : Nat) (a b : Nat → Nat) : Prop := ∀ i j, i < n → j < n → a i = a j → b i = b j
theorem fine_meet {n : Nat} {a b m : Nat → Nat} (ha : Wf n a) (h : IsMeet n a b m) : Fine n a b ↔ ∀ i, i < n → m i = a i := by
  constructor
  · intro hf
    exact wf_unique h.1 ha (fun i j hi hj => (h.2 i j hi hj).trans ⟨fun e => e.1, fun e => ⟨e, hf i j hi hj e⟩⟩)
  · intro hm i j hi hj e
    exact ((h.2 i j hi hj).1 (by rw [hm i hi, hm j hj]; exact e)).2
theorem fine_join {n : Nat} {a b m : Nat → Nat} (hb : Wf n b) (h : IsJoin n a b m) : Fine n a b ↔ ∀ i, i < n → m i = b i := by
  constructor
  · intro hf
    exact wf_unique h.1 hb (fun i j hi hj => (h.2 i j hi hj).trans ⟨fun e => e.keeps b hi hf (fun _ _ _ _ e => e), fun e => .two hj e⟩)
  · intro hm i j hi hj e
    have := (h.2 i j hi hj).2 (.one hj e)
    rw [hm i hi, hm j hj] at this
    exact this
/-- A coarser vector has no more classes. -/
theorem cnt_fine {n : Nat} {a b : Nat → Nat} (ha : Wf n a) (hb : Wf n b) (h : Fine n a b) : ∀ i, i ≤ n → cnt b i ≤ cnt a i
  | 0, _ => Nat.le_refl _
  | i + 1, hi => by
    have ih := cnt_fine ha hb h i (by omega)
    show (if b i = cnt b i then cnt b i + 1 else cnt b i) ≤ if a i = cnt a i then cnt a i + 1 else cnt a i
    by_cases h1 : b i = cnt b i
    · rw [if_pos h1]
      have hnew : a i = cnt a i := new_label ha (by omega) (fun k hk e => by
        have e2 := h k i (by omega) (by omega) e
        have := lt_cnt hb (k := k) (i := i) hk (by omega)
        omega)
      rw [if_pos hnew]; omega
    · rw [if_neg h1]
      split <;> omega
end Go.Proofs.Ytokjdlljhloflaa.Part
