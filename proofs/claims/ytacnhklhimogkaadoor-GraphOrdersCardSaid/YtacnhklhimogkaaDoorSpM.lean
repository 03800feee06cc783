/- Splitting what was joined, in plain lists. -/
import Derived.Test.YtacnhklhimogkaaDoorFoA
import Derived.Lib.Split
import Derived.Lib.CountLaws
namespace Go.Proofs.YtacnhklhimogkaaDoor
set_option linter.unusedVariables false
set_option linter.unusedSimpArgs false

theorem index_none1 (c : UInt8) : ∀ x : List UInt8, (∀ b ∈ x, b ≠ c) → Lib.index x [c] = -1
  | [], _ => rfl
  | b :: x, h => by
    have h1 := index_none1 c x (fun y hy => h y (List.mem_cons_of_mem _ hy))
    have h2 : (c == b) = false := by rw [beq_eq_false_iff_ne]; exact fun e => h b (List.mem_cons_self ..) e.symm
    unfold Lib.index
    simp [List.isPrefixOf, h1, h2]
theorem index_app1 (c : UInt8) (r : List UInt8) : ∀ x : List UInt8, (∀ b ∈ x, b ≠ c) → Lib.index (x ++ c :: r) [c] = (x.length : Int)
  | [], _ => by show Lib.index (c :: r) [c] = 0; unfold Lib.index; simp [List.isPrefixOf]
  | b :: x, h => by
    have h1 := index_app1 c r x (fun y hy => h y (List.mem_cons_of_mem _ hy))
    have h2 : (c == b) = false := by rw [beq_eq_false_iff_ne]; exact fun e => h b (List.mem_cons_self ..) e.symm
    have h3 : ((x.length : Int) == -1) = false := by rw [beq_eq_false_iff_ne]; omega
    show Lib.index (b :: (x ++ c :: r)) [c] = _
    unfold Lib.index
    simp [List.isPrefixOf, h1, h2, h3]

theorem join_two (c : UInt8) (x y : List UInt8) (r : List (List UInt8)) : Lib.join (x :: y :: r) [c] = x ++ c :: Lib.join (y :: r) [c] := by
  rw [Lib.join_cons, Lib.join_cons]
  simp [Lib.joinTail]

theorem split_join (c : UInt8) : ∀ (r : List (List UInt8)) (x : List UInt8), (∀ y ∈ x :: r, ∀ b ∈ y, b ≠ c) → Lib.splitK [c] 0 r.length (Lib.join (x :: r) [c]) = x :: r
  | [], x, _ => by rw [Lib.join_one]; rfl
  | y :: r, x, h => by
    have hx := h x (List.mem_cons_self ..)
    have ih := split_join c r y (fun z hz => h z (List.mem_cons_of_mem _ hz))
    have hi := index_app1 c (Lib.join (y :: r) [c]) x hx
    rw [join_two]
    show Lib.splitK [c] 0 (r.length + 1) (x ++ c :: Lib.join (y :: r) [c]) = _
    unfold Lib.splitK
    have hne : ((x.length : Int) == -1) = false := by rw [beq_eq_false_iff_ne]; omega
    rw [hi, hne]
    simp [ih]

theorem count_join (c : UInt8) : ∀ (r : List (List UInt8)) (x : List UInt8) (fuel : Nat), r.length < fuel → (∀ y ∈ x :: r, ∀ b ∈ y, b ≠ c) → Lib.countFrom [c] fuel (Lib.join (x :: r) [c]) = r.length
  | [], x, fuel + 1, _, h => by
    have hx := h x (List.mem_cons_self ..)
    rw [Lib.join_one]
    unfold Lib.countFrom
    rw [index_none1 c x hx]
    rfl
  | y :: r, x, fuel + 1, hf, h => by
    have hx := h x (List.mem_cons_self ..)
    have ih := count_join c r y fuel (by simp at hf; omega) (fun z hz => h z (List.mem_cons_of_mem _ hz))
    have hi := index_app1 c (Lib.join (y :: r) [c]) x hx
    rw [join_two]
    unfold Lib.countFrom
    have hne : ((x.length : Int) == -1) = false := by rw [beq_eq_false_iff_ne]; omega
    rw [hi, hne]
    simp [ih]
    omega

theorem join_length (c : UInt8) : ∀ (r : List (List UInt8)) (x : List UInt8), r.length ≤ (Lib.join (x :: r) [c]).length
  | [], x => Nat.zero_le _
  | y :: r, x => by
    have := join_length c r y
    rw [join_two]
    simp only [List.length_append, List.length_cons] at this ⊢
    omega

/-- A list of strings without c, joined by c, is split into itself. -/
theorem splitB_join (c : UInt8) (x : ByteArray) (r : List ByteArray) (h : ∀ y ∈ x :: r, ∀ b ∈ y.data.toList, b ≠ c) (s : ByteArray) (hs : s.data.toList = Lib.join ((x :: r).map (·.data.toList)) [c]) :
    Lib.countB s ⟨#[c]⟩ = r.length ∧ Lib.splitB ⟨#[c]⟩ 0 r.length s = x :: r := by
  have h' : ∀ y ∈ x.data.toList :: r.map (·.data.toList), ∀ b ∈ y, b ≠ c := by
    intro y hy
    rw [← List.map_cons (f := fun z : ByteArray => z.data.toList), List.mem_map] at hy
    obtain ⟨z, hz, rfl⟩ := hy
    exact h z hz
  constructor
  · show Lib.countFrom [c] (s.data.toList.length + 1) s.data.toList = r.length
    rw [hs]
    have := count_join c (r.map (·.data.toList)) x.data.toList ((Lib.join ((x :: r).map (·.data.toList)) [c]).length + 1) (by
      have := join_length c (r.map (·.data.toList)) x.data.toList
      rw [List.length_map] at this ⊢
      rw [List.map_cons]
      omega) h'
    rw [List.length_map] at this
    exact this
  · have hd := Lib.splitB_data ⟨#[c]⟩ 0 r.length s
    rw [hs] at hd
    have hk := split_join c (r.map (·.data.toList)) x.data.toList h'
    rw [List.length_map] at hk
    have e : (Lib.splitB ⟨#[c]⟩ 0 r.length s).map (·.data.toList) = (x :: r).map (·.data.toList) := hd.trans hk
    have inj : Function.Injective (fun z : ByteArray => z.data.toList) := by
      intro a b hab
      have h2 : a.data = b.data := Array.toList_inj.1 hab
      cases a; cases b
      exact congrArg ByteArray.mk h2
    exact (List.map_inj_right (fun a b hab => inj hab)).1 e
end Go.Proofs.YtacnhklhimogkaaDoor
