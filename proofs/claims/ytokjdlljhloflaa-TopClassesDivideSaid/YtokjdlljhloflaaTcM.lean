/- The classes of partitions of up to five elements, as masks. -/
import Derived.Test.YtokjdlljhloflaaPtN
namespace Go.Proofs.Ytokjdlljhloflaa.Part
set_option linter.unusedVariables false
set_option linter.unusedSimpArgs false

/-- The mask of a class, and all of them. -/
def msf (a : Nat → Nat) (n c : Nat) : Nat := ((List.range n).filter fun j => a j == c).foldl (fun s i => s ||| 2 ^ i) 0
def cls (a : Nat → Nat) (n : Nat) : List Nat := (List.range (cnt a n)).map (msf a n)
def wantL (x y : List Nat) : List Nat := x.flatMap fun c => (y.filter fun d => c &&& d != 0).map fun d => c &&& d
theorem cls_congr {a b : Nat → Nat} {n : Nat} (h : ∀ i, i < n → a i = b i) : cls a n = cls b n := by
  unfold cls
  rw [cnt_congr h]
  refine List.map_congr_left fun c _ => ?_
  unfold msf
  congr 1
  refine List.filter_congr fun j hj => ?_
  rw [h j (List.mem_range.1 hj)]
def fn (l : List Nat) : Nat → Nat := fun i => l.getD i 0
/-- All partitions of n elements, as lists of labels. -/
def pls : Nat → List (List Nat)
  | 0 => [[]]
  | n + 1 => (pls n).flatMap fun l => (List.range (cnt (fn l) n + 1)).map fun v => l ++ [v]
theorem fn_app {l : List Nat} {v i : Nat} (hi : i < l.length) : fn (l ++ [v]) i = fn l i := by
  unfold fn
  rw [List.getD_eq_getElem?_getD, List.getD_eq_getElem?_getD, List.getElem?_append_left hi]
theorem pls_mem {a : Nat → Nat} : ∀ {n : Nat}, Wf n a → (List.range n).map a ∈ pls n
  | 0, _ => by simp [pls]
  | n + 1, h => by
    have ih := pls_mem (n := n) (fun i hi => h i (by omega))
    have e : cnt (fn ((List.range n).map a)) n = cnt a n := cnt_congr fun k hk => by simp [fn, hk]
    refine List.mem_flatMap.2 ⟨_, ih, List.mem_map.2 ⟨a n, ?_, by rw [List.range_succ, List.map_append]; rfl⟩⟩
    rw [List.mem_range, e]
    have := h n (by omega)
    omega
theorem cls_fn (a : Nat → Nat) (n : Nat) : cls (fn ((List.range n).map a)) n = cls a n := cls_congr fun i hi => by simp [fn, hi]
/-- What holds of all lists of labels holds of all partitions. -/
theorem by_pls {n : Nat} (hn : n ≤ 5) {a : Nat → Nat} (h : Wf n a) : ∃ l, l ∈ pls n ∧ cls a n = cls (fn l) n ∧ ∀ i, i < n → a i = fn l i :=
  ⟨_, pls_mem h, (cls_fn a n).symm, fun i hi => by simp [fn, hi]⟩
theorem sum_all : ∀ n, n ≤ 5 → ∀ l, l ∈ pls n → (cls (fn l) n).foldl (· + ·) 0 = 2 ^ n - 1 := by
  have key : ∀ n : Fin 6, ∀ l, l ∈ pls n.val → (cls (fn l) n.val).foldl (· + ·) 0 = 2 ^ n.val - 1 := by decide +kernel
  intro n hn
  exact key ⟨n, by omega⟩
def sameb (n : Nat) (l m j : List Nat) : Bool := (List.range n).all fun i => (List.range n).all fun k => (fn j i == fn j k) == ((fn l i == fn l k) && (fn m i == fn m k))
/-- The labels of a meet. -/
def meetL (n : Nat) (l m : List Nat) : List Nat := (List.range n).map (lab fun i => (fn l i, fn m i))
theorem meet_perm : ∀ n, n ≤ 5 → ∀ l, l ∈ pls n → ∀ m, m ∈ pls n → (wantL (cls (fn l) n) (cls (fn m) n)).isPerm (cls (fn (meetL n l m)) n) = true := by
  have key : ∀ n : Fin 6, ∀ l, l ∈ pls n.val → ∀ m, m ∈ pls n.val → (wantL (cls (fn l) n.val) (cls (fn m) n.val)).isPerm (cls (fn (meetL n.val l m)) n.val) = true := by decide +kernel
  intro n hn
  exact key ⟨n, by omega⟩
def fineb (n : Nat) (l m : List Nat) : Bool := (List.range n).all fun i => (List.range n).all fun k => !(fn l i == fn l k) || (fn m i == fn m k)
theorem fine_sets : ∀ n, n ≤ 5 → ∀ l, l ∈ pls n → ∀ m, m ∈ pls n → fineb n l m = true → ∀ s, s ∈ cls (fn m) n → ∀ c, c ∈ cls (fn l) n → c &&& s = 0 ∨ c &&& s = c := by
  have key : ∀ n : Fin 6, ∀ l, l ∈ pls n.val → ∀ m, m ∈ pls n.val → fineb n.val l m = true → ∀ s, s ∈ cls (fn m) n.val → ∀ c, c ∈ cls (fn l) n.val → c &&& s = 0 ∨ c &&& s = c := by decide +kernel
  intro n hn
  exact key ⟨n, by omega⟩
/-- The sum of the classes. -/
theorem cls_sum {n : Nat} (hn : n ≤ 5) {a : Nat → Nat} (h : Wf n a) : (cls a n).foldl (· + ·) 0 = 2 ^ n - 1 := by
  obtain ⟨l, h1, h2, _⟩ := by_pls hn h
  rw [h2]
  exact sum_all n hn l h1
/-- The classes of a meet are the intersections that are not empty. -/
theorem cls_meet {n : Nat} (hn : n ≤ 5) {a b m : Nat → Nat} (ha : Wf n a) (hb : Wf n b) (h : IsMeet n a b m) : (wantL (cls a n) (cls b n)).Perm (cls m n) := by
  obtain ⟨l, h1, h2, h3⟩ := by_pls hn ha
  obtain ⟨k, k1, k2, k3⟩ := by_pls hn hb
  have e : cls m n = cls (fn (meetL n l k)) n := cls_congr fun i hi => by
    have e2 : fn (meetL n l k) i = lab (fun i => (fn l i, fn k i)) i := by simp [fn, meetL, hi]
    rw [e2]
    refine meet_unique h ?_ i hi
    have h5 := lab_meet n (fn l) (fn k)
    exact ⟨h5.1, fun i j hi hj => by rw [h5.2 i j hi hj, h3 i hi, h3 j hj, k3 i hi, k3 j hj]⟩
  rw [h2, k2, e]
  exact List.isPerm_iff.1 (meet_perm n hn l h1 k k1)
/-- A class of a finer partition lies in a set of the coarser one, or outside. -/
theorem cls_fine {n : Nat} (hn : n ≤ 5) {a m : Nat → Nat} (ha : Wf n a) (hm : Wf n m) (h : ∀ i j, i < n → j < n → a i = a j → m i = m j) {s c : Nat} (hs : s ∈ cls m n) (hc : c ∈ cls a n) : c &&& s = 0 ∨ c &&& s = c := by
  obtain ⟨l, h1, h2, h3⟩ := by_pls hn ha
  obtain ⟨k, k1, k2, k3⟩ := by_pls hn hm
  rw [h2] at hc
  rw [k2] at hs
  refine fine_sets n hn l h1 k k1 ?_ s hs c hc
  unfold fineb
  rw [List.all_eq_true]
  intro i hi
  rw [List.all_eq_true]
  intro j hj
  have hi' := List.mem_range.1 hi
  have hj' := List.mem_range.1 hj
  by_cases e : fn l i = fn l j
  · have := h i j hi' hj' (by rw [h3 i hi', h3 j hj', e])
    rw [k3 i hi', k3 j hj'] at this
    simp [this]
  · simp [e]
theorem cls_join {n : Nat} (hn : n ≤ 5) {a b m : Nat → Nat} (ha : Wf n a) (hb : Wf n b) (h : IsJoin n a b m) {s c : Nat} (hs : s ∈ cls m n) (hc : c ∈ cls a n ∨ c ∈ cls b n) : c &&& s = 0 ∨ c &&& s = c := by
  rcases hc with hc | hc
  · exact cls_fine hn ha h.1 (fun i j hi hj e => (h.2 i j hi hj).2 (.one hj e)) hs hc
  · exact cls_fine hn hb h.1 (fun i j hi hj e => (h.2 i j hi hj).2 (.two hj e)) hs hc

end Go.Proofs.Ytokjdlljhloflaa.Part
