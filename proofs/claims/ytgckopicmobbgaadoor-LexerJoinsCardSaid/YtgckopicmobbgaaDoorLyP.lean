/- Plain facts: when a blank stands between two texts. -/
import Derived.Test.YtgckopicmobbgaaDoorLxZ
namespace Go.Proofs.YtgckopicmobbgaaDoor.Lex
set_option linter.unusedVariables false
set_option linter.unusedSimpArgs false

def apB (a c : List Nat) : Bool := !a.isEmpty && !c.isEmpty && ((decide (a = [60]) && decide (c.headD 0 = 61)) || (decide (0 < hdN isWrd a) && decide (0 < hdN isWrd c)))
theorem fit_word {k : Nat} (hk : k ≤ 1) {L : List Nat} (h : fitB k L = true) : L.isEmpty = false ∧ hdN isWrd L = L.length := by
  unfold fitB at h
  obtain rfl | rfl : k = 0 ∨ k = 1 := by omega
  · rw [if_pos rfl] at h
    unfold nameB at h
    simp at h
    refine ⟨?_, h.2⟩
    cases L with
    | nil => simp at h
    | cons x r => rfl
  · rw [if_neg (by decide), if_pos rfl] at h
    unfold numB at h
    simp at h
    refine ⟨?_, wrd_all L h.1.2⟩
    cases L with
    | nil => simp at h
    | cons x r => rfl
theorem sgT_facts : ∀ t ∈ sgT, t.isEmpty = false ∧ hdN isWrd t = 0 ∧ (t.headD 0 = 61 → t = [61]) := by decide
theorem word_head {L : List Nat} (h : hdN isWrd L = L.length) (he : L.isEmpty = false) : L.headD 0 ≠ 61 ∧ L ≠ [60] ∧ L ≠ [61] ∧ 0 < hdN isWrd L := by
  cases L with
  | nil => cases he
  | cons c r =>
    have hp : isWrd c = true := by
      cases hc : isWrd c with
      | true => rfl
      | false => rw [hdN_no hc] at h; simp at h
    have h61 : c ≠ 61 := by
      rintro rfl
      revert hp
      decide
    have h60 : c ≠ 60 := by
      rintro rfl
      revert hp
      decide
    refine ⟨h61, fun e => h60 (List.cons.inj e).1, fun e => h61 (List.cons.inj e).1, ?_⟩
    rw [hdN_yes hp]
    omega
theorem fit_end {L : List Nat} (h : fitB 3 L = true) : L = [] := List.isEmpty_iff.1 h
theorem fit_sg {L : List Nat} (h : fitB 2 L = true) : L ∈ sgT := by
  have h2 : decide (L ∈ sgT) = true := h
  exact of_decide_eq_true h2
theorem apB_eq {k k' : Nat} (hk : k ≤ 3) (hk' : k' ≤ 3) {a c : List Nat} (ha : fitB k a = true) (hc : fitB k' c = true) : apB a c = ((decide (k ≤ 1) && decide (k' ≤ 1)) || (decide (a = [60]) && decide (c = [61]))) := by
  unfold apB
  by_cases h1 : k ≤ 1
  · obtain ⟨ea, wa⟩ := fit_word h1 ha
    obtain ⟨a1, a2, a3, a4⟩ := word_head wa ea
    by_cases h2 : k' ≤ 1
    · obtain ⟨ec, wc⟩ := fit_word h2 hc
      obtain ⟨c1, c2, c3, c4⟩ := word_head wc ec
      simp [h1, h2, ea, ec, a4, c4]
    · by_cases h3 : k' = 2
      · subst h3
        obtain ⟨ec, wc, _⟩ := sgT_facts _ (fit_sg hc)
        simp [ea, ec, wc, a2]
      · have h4 : k' = 3 := by omega
        subst h4
        rw [fit_end hc]
        simp
  · by_cases h5 : k = 2
    · subst h5
      obtain ⟨ea, wa, _⟩ := sgT_facts _ (fit_sg ha)
      by_cases h2 : k' ≤ 1
      · obtain ⟨ec, wc⟩ := fit_word h2 hc
        obtain ⟨c1, c2, c3, c4⟩ := word_head wc ec
        simp only [List.headD_eq_head?_getD] at c1
        simp [ea, ec, wa, c1, c3]
      · by_cases h3 : k' = 2
        · subst h3
          obtain ⟨ec, wc, hh⟩ := sgT_facts _ (fit_sg hc)
          have hi : c.headD 0 = 61 ↔ c = [61] := ⟨hh, fun e => by rw [e]; rfl⟩
          simp only [ea, ec, wa, wc, hi]
          simp
        · have h4 : k' = 3 := by omega
          subst h4
          rw [fit_end hc]
          simp
    · have h6 : k = 3 := by omega
      subst h6
      rw [fit_end ha]
      simp
end Go.Proofs.YtgckopicmobbgaaDoor.Lex
