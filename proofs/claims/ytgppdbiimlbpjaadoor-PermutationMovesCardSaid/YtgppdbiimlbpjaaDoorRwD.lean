/- Permutations of at most five processes in plain numbers. -/
import Derived.Test.YtgppdbiimlbpjaaDoorRwB
namespace Go.Proofs.YtgppdbiimlbpjaaDoor
set_option linter.unusedVariables false
set_option linter.unusedSimpArgs false

/-- All lists that begin with the given ones and go on with one more number below n that they lack. -/
def grow (n : Nat) (L : List (List Nat)) : List (List Nat) := L.flatMap fun l => ((List.range n).filter fun x => !l.contains x).map fun x => l ++ [x]
/-- The permutations of n processes, in lexicographic order. -/
def pl (n : Nat) : List (List Nat) := (List.range n).foldl (fun L _ => grow n L) [[]]
def fun_ (l : List Nat) : Nat → Nat := fun i => l.getD i 0
theorem pl1 : ∀ a : Fin 1, [a.val] ∈ pl 1 := by decide +kernel
theorem pl2 : ∀ a b : Fin 2, a ≠ b → [a.val, b.val] ∈ pl 2 := by decide +kernel
theorem pl3 : ∀ a b c : Fin 3, a ≠ b → a ≠ c → b ≠ c → [a.val, b.val, c.val] ∈ pl 3 := by decide +kernel
theorem pl4 : ∀ a b c d : Fin 4, a ≠ b → a ≠ c → a ≠ d → b ≠ c → b ≠ d → c ≠ d → [a.val, b.val, c.val, d.val] ∈ pl 4 := by decide +kernel
theorem pl5 : ∀ a b c d e : Fin 5, ([a, b, c, d, e] : List (Fin 5)).Nodup → [a.val, b.val, c.val, d.val, e.val] ∈ pl 5 := by decide +kernel
/-- The list of a permutation. -/
def lo (n : Nat) (a : Nat → Nat) : List Nat := (List.range n).map a
theorem lo_mem {n : Nat} {a : Nat → Nat} (h : Good n a) : lo n a ∈ pl n := by
  have h1 := h.lo
  have h5 := h.hi
  have l := h.perm.lt
  have ne : ∀ p q, p < n → q < n → p ≠ q → a p ≠ a q := fun p q hp hq hne e => hne (h.perm.inj p q hp hq e)
  obtain rfl | rfl | rfl | rfl | rfl : n = 1 ∨ n = 2 ∨ n = 3 ∨ n = 4 ∨ n = 5 := by omega
  · exact pl1 ⟨a 0, l 0 (by omega)⟩
  · exact pl2 ⟨a 0, l 0 (by omega)⟩ ⟨a 1, l 1 (by omega)⟩ (by simpa using ne 0 1 (by omega) (by omega) (by omega))
  · exact pl3 ⟨a 0, l 0 (by omega)⟩ ⟨a 1, l 1 (by omega)⟩ ⟨a 2, l 2 (by omega)⟩ (by simpa using ne 0 1 (by omega) (by omega) (by omega)) (by simpa using ne 0 2 (by omega) (by omega) (by omega)) (by simpa using ne 1 2 (by omega) (by omega) (by omega))
  · exact pl4 ⟨a 0, l 0 (by omega)⟩ ⟨a 1, l 1 (by omega)⟩ ⟨a 2, l 2 (by omega)⟩ ⟨a 3, l 3 (by omega)⟩ (by simpa using ne 0 1 (by omega) (by omega) (by omega)) (by simpa using ne 0 2 (by omega) (by omega) (by omega)) (by simpa using ne 0 3 (by omega) (by omega) (by omega)) (by simpa using ne 1 2 (by omega) (by omega) (by omega)) (by simpa using ne 1 3 (by omega) (by omega) (by omega)) (by simpa using ne 2 3 (by omega) (by omega) (by omega))
  · refine pl5 ⟨a 0, l 0 (by omega)⟩ ⟨a 1, l 1 (by omega)⟩ ⟨a 2, l 2 (by omega)⟩ ⟨a 3, l 3 (by omega)⟩ ⟨a 4, l 4 (by omega)⟩ ?_
    have n01 := ne 0 1 (by omega) (by omega) (by omega)
    have n02 := ne 0 2 (by omega) (by omega) (by omega)
    have n03 := ne 0 3 (by omega) (by omega) (by omega)
    have n04 := ne 0 4 (by omega) (by omega) (by omega)
    have n12 := ne 1 2 (by omega) (by omega) (by omega)
    have n13 := ne 1 3 (by omega) (by omega) (by omega)
    have n14 := ne 1 4 (by omega) (by omega) (by omega)
    have n23 := ne 2 3 (by omega) (by omega) (by omega)
    have n24 := ne 2 4 (by omega) (by omega) (by omega)
    have n34 := ne 3 4 (by omega) (by omega) (by omega)
    simp [n01, n02, n03, n04, n12, n13, n14, n23, n24, n34]
theorem lo_at {n : Nat} {a : Nat → Nat} {i : Nat} (h : i < n) : fun_ (lo n a) i = a i := by simp [fun_, lo, h]
/-- Whatever holds of all lists holds of each permutation. -/
theorem by_lists {P : Nat → List Nat → Prop} (h1 : ∀ l ∈ pl 1, P 1 l) (h2 : ∀ l ∈ pl 2, P 2 l) (h3 : ∀ l ∈ pl 3, P 3 l) (h4 : ∀ l ∈ pl 4, P 4 l) (h5 : ∀ l ∈ pl 5, P 5 l) {n : Nat} {a : Nat → Nat} (h : Good n a) : P n (lo n a) := by
  have hm := lo_mem h
  have hl := h.lo
  have hh := h.hi
  obtain rfl | rfl | rfl | rfl | rfl : n = 1 ∨ n = 2 ∨ n = 3 ∨ n = 4 ∨ n = 5 := by omega
  · exact h1 _ hm
  · exact h2 _ hm
  · exact h3 _ hm
  · exact h4 _ hm
  · exact h5 _ hm
/-- Powers. -/
def itr (a : Nat → Nat) : Nat → Nat → Nat
  | 0 => fun i => i
  | k + 1 => fun i => a (itr a k i)
theorem itr_lt {n : Nat} {a : Nat → Nat} (h : ∀ i, i < n → a i < n) : ∀ k i, i < n → itr a k i < n
  | 0, i, hi => hi
  | k + 1, i, hi => h _ (itr_lt h k i hi)
theorem itr_good {n : Nat} {a : Nat → Nat} (h : Good n a) : ∀ k, Good n (itr a k)
  | 0 => ⟨h.lo, h.hi, ⟨fun _ h => h, fun _ _ _ _ e => e⟩⟩
  | k + 1 => ⟨h.lo, h.hi, ⟨fun i hi => h.perm.lt _ ((itr_good h k).perm.lt i hi), fun p q hp hq e => (itr_good h k).perm.inj p q hp hq (h.perm.inj _ _ ((itr_good h k).perm.lt p hp) ((itr_good h k).perm.lt q hq) e)⟩⟩
theorem itr_congr {n : Nat} {a b : Nat → Nat} (hb : ∀ i, i < n → b i < n) (h : ∀ i, i < n → a i = b i) : ∀ k i, i < n → itr a k i = itr b k i
  | 0, _, _ => rfl
  | k + 1, i, hi => by
    show a (itr a k i) = b (itr b k i)
    rw [itr_congr hb h k i hi, h _ (itr_lt hb k i hi)]
/-- Whether a power is the identity. -/
def idb (n : Nat) (a : Nat → Nat) (k : Nat) : Bool := (List.range n).all fun i => itr a k i == i
theorem idb_iff {n : Nat} {a : Nat → Nat} {k : Nat} : idb n a k = true ↔ ∀ i, i < n → itr a k i = i := by
  unfold idb
  rw [List.all_eq_true]
  exact ⟨fun h i hi => by simpa using h i (List.mem_range.2 hi), fun h i hi => by simpa using h i (List.mem_range.1 hi)⟩
theorem idb_congr {n : Nat} {a b : Nat → Nat} (hb : ∀ i, i < n → b i < n) (h : ∀ i, i < n → a i = b i) (k : Nat) : idb n a k = idb n b k := by
  rw [Bool.eq_iff_iff, idb_iff, idb_iff]
  exact ⟨fun H i hi => by rw [← itr_congr hb h k i hi]; exact H i hi, fun H i hi => by rw [itr_congr hb h k i hi]; exact H i hi⟩
def ordl (n : Nat) (a : Nat → Nat) : Nat := ((List.range' 1 6).find? fun k => idb n a k).getD 0
theorem ord_some {n : Nat} {a : Nat → Nat} (h : Good n a) : ∃ k, 1 ≤ k ∧ k ≤ 6 ∧ idb n a k = true := by
  have := by_lists (P := fun n l => ((List.range' 1 6).any fun k => idb n (fun_ l) k) = true) (by decide +kernel) (by decide +kernel) (by decide +kernel) (by decide +kernel) (by decide +kernel) h
  rw [List.any_eq_true] at this
  obtain ⟨k, hk, hi⟩ := this
  rw [List.mem_range'_1] at hk
  exact ⟨k, hk.1, by omega, (idb_congr h.perm.lt (fun i hi => lo_at hi) k).symm.trans hi⟩
theorem ordl_is {n : Nat} {a : Nat → Nat} {k : Nat} (h1 : 1 ≤ k) (h6 : k ≤ 6) (hk : idb n a k = true) (hn : ∀ j, 1 ≤ j → j < k → idb n a j = false) : ordl n a = k := by
  unfold ordl
  have e : List.range' 1 6 = [1, 2, 3, 4, 5, 6] := by decide
  rw [e]
  obtain rfl | rfl | rfl | rfl | rfl | rfl : k = 1 ∨ k = 2 ∨ k = 3 ∨ k = 4 ∨ k = 5 ∨ k = 6 := by omega
  · simp [hk]
  · simp [hk, hn 1 (by omega) (by omega)]
  · simp [hk, hn 1 (by omega) (by omega), hn 2 (by omega) (by omega)]
  · simp [hk, hn 1 (by omega) (by omega), hn 2 (by omega) (by omega), hn 3 (by omega) (by omega)]
  · simp [hk, hn 1 (by omega) (by omega), hn 2 (by omega) (by omega), hn 3 (by omega) (by omega), hn 4 (by omega) (by omega)]
  · simp [hk, hn 1 (by omega) (by omega), hn 2 (by omega) (by omega), hn 3 (by omega) (by omega), hn 4 (by omega) (by omega), hn 5 (by omega) (by omega)]
/-- Whether numbers ascend. -/
def srtb (n : Nat) (f : Nat → Int) : Bool := decide (∀ i, i < n - 1 → f i ≤ f (i + 1))
theorem srt_id {n : Nat} {a : Nat → Nat} (h : Good n a) : srtb n (zf a) = true ↔ ∀ i, i < n → a i = i := by
  have hl := by_lists (P := fun n l => ((List.range (n - 1)).all fun i => decide (fun_ l i ≤ fun_ l (i + 1))) = ((List.range n).all fun i => fun_ l i == i)) (by decide +kernel) (by decide +kernel) (by decide +kernel) (by decide +kernel) (by decide +kernel) h
  unfold srtb
  rw [decide_eq_true_iff]
  rw [Bool.eq_iff_iff, List.all_eq_true, List.all_eq_true] at hl
  constructor
  · intro H i hi
    have := hl.1 (fun j hj => by
      have hj2 := List.mem_range.1 hj
      have := H j hj2
      unfold zf at this
      rw [decide_eq_true_iff, lo_at (by omega), lo_at (by omega)]
      omega) i (List.mem_range.2 hi)
    rw [lo_at hi] at this
    simpa using this
  · intro H i hi
    have e1 := H i (by omega)
    have e2 := H (i + 1) (by omega)
    unfold zf
    omega
end Go.Proofs.YtgppdbiimlbpjaaDoor
