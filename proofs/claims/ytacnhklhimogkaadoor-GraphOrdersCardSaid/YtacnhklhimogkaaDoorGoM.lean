/- The list of all graphs has every graph, and ascends. -/
import Derived.Test.YtacnhklhimogkaaDoorAlC
import Derived.Test.YtacnhklhimogkaaDoorOrM
namespace Go.Proofs.YtacnhklhimogkaaDoor
set_option linter.unusedVariables false
set_option linter.unusedSimpArgs false
open Go.RowKit

theorem mem_exts {p : Nat} {a : Nat → Nat} {m : Nat} (hb : m / 2 ^ p % 2 = 1) : ∀ M, m < M → upd a p m ∈ exts p a M
  | 0, h => by omega
  | M + 1, h => by
    by_cases e : m = M
    · subst e
      rw [exts_yes hb]
      simp
    · have := mem_exts (a := a) hb M (by omega)
      unfold exts
      exact List.mem_append_left _ this
theorem mem_allG {n : Nat} {a : Nat → Nat} (ha : WF n a) : ∀ p, p ≤ n → ∃ x ∈ allG n p, ∀ i, (i < p → x i = a i) ∧ (p ≤ i → x i = 0)
  | 0, _ => ⟨fun _ => 0, by simp [allG], fun i => ⟨by omega, fun _ => rfl⟩⟩
  | p + 1, h => by
    obtain ⟨x, hx, hxa⟩ := mem_allG ha p (by omega)
    have hr := ha.2.1 p (by omega)
    refine ⟨upd x p (a p), List.mem_flatMap.2 ⟨x, hx, mem_exts hr.2 _ hr.1⟩, fun i => ⟨fun hi => ?_, fun hi => ?_⟩⟩
    · by_cases e : i = p
      · subst e; exact upd_at _ _ _
      · rw [upd_off _ _ e]; exact (hxa i).1 (by omega)
    · rw [upd_off _ _ (by omega)]; exact (hxa i).2 (by omega)
/-- Every graph stands somewhere in the list. -/
theorem at_allG {n : Nat} {a : Nat → Nat} (ha : WF n a) : ∃ k, ∃ h : k < (allG n n).length, ∀ p, p < 5 → (allG n n)[k] p = a p := by
  obtain ⟨x, hx, hxa⟩ := mem_allG ha n (Nat.le_refl _)
  obtain ⟨k, hk, e⟩ := List.mem_iff_getElem.1 hx
  refine ⟨k, hk, fun p hp => ?_⟩
  rw [e]
  by_cases h : p < n
  · exact (hxa p).1 h
  · rw [(hxa p).2 (by omega), ha.2.2 p (by omega) hp]

def ascB (n : Nat) (l : List (Nat → Nat)) : Bool := (List.range l.length).all fun i => i == 0 || decide (0 ≤ gcmp (n : Int) (n : Int) (fun p => ((l.getD i (fun _ => 0) p : Nat) : Int)) (fun p => ((l.getD (i - 1) (fun _ => 0) p : Nat) : Int)))
theorem asc_all {n : Nat} (h1 : 1 ≤ n) (h3 : n ≤ 3) : ascB n (allG n n) = true := by
  obtain rfl | rfl | rfl : n = 1 ∨ n = 2 ∨ n = 3 := by omega
  all_goals decide +kernel
/-- The list ascends. -/
theorem asc_at {n : Nat} (h1 : 1 ≤ n) (h3 : n ≤ 3) {i : Nat} (h : i + 1 < (allG n n).length) : 0 ≤ gcmp (n : Int) (n : Int) (fun p => (((allG n n)[i + 1] p : Nat) : Int)) (fun p => (((allG n n)[i] p : Nat) : Int)) := by
  have := List.all_eq_true.1 (asc_all h1 h3) (i + 1) (List.mem_range.2 h)
  simp [List.getElem?_eq_getElem h, List.getElem?_eq_getElem (show i < (allG n n).length by omega)] at this
  exact this
end Go.Proofs.YtacnhklhimogkaaDoor
