/- Plain facts: texts of their kinds, the reserved words cut at blanks. -/
import Derived.Test.YtgckopicmobbgaaDoorLxM
namespace Go.Proofs.YtgckopicmobbgaaDoor.Lex
set_option linter.unusedVariables false
set_option linter.unusedSimpArgs false

def kwAll : List Nat := rsT.flatMap fun t => t ++ [32]
def kwS (s : List (List Nat) × List Nat) (c : Nat) : List (List Nat) × List Nat := if c = 32 then (s.1 ++ [s.2], []) else (s.1, s.2 ++ [c])
def kwF (l : List Nat) : List (List Nat) × List Nat := l.foldl kwS ([], [])
theorem kw_all : kwF kwAll = (rsT, []) := by decide +kernel
theorem kwF_snoc (l : List Nat) (c : Nat) : kwF (l ++ [c]) = kwS (kwF l) c := by unfold kwF; rw [List.foldl_append]; rfl
theorem kwF_bound : ∀ (l : List Nat) (s : List (List Nat) × List Nat), (l.foldl kwS s).1.length ≤ s.1.length + l.length ∧ (l.foldl kwS s).2.length ≤ s.2.length + l.length
  | [], s => ⟨Nat.le_refl _, Nat.le_refl _⟩
  | c :: r, s => by
    have ih := kwF_bound r (kwS s c)
    have h1 : (kwS s c).1.length ≤ s.1.length + 1 := by unfold kwS; split <;> simp
    have h2 : (kwS s c).2.length ≤ s.2.length + 1 := by unfold kwS; split <;> simp
    rw [List.foldl_cons]
    simp
    omega
theorem dig_not_let {c : Nat} (h : isDig c = true) : isLet c = false := by
  unfold isDig at h
  unfold isLet
  simp at h ⊢
  omega
def fitR (k : Nat) (L : List Nat) : Bool := if k = 3 then L.isEmpty else !L.isEmpty && (decide ((nxt L).2.2.2 = 0) && (decide ((nxt L).1 = k) && decide ((nxt L).2.1 = L.length)))
theorem nxt_zero {D : List Nat} (h0 : hdN isWrd D = 0) : nxt D = if sgnN D = 0 then (0, 0, 0, 4) else (2, sgnN D, 0, 0) := by unfold nxt; rw [if_pos h0]
theorem nxt_word' {D : List Nat} (h0 : ¬ hdN isWrd D = 0) : nxt D = if isLet (D.headD 0) then (if 24 < hdN isWrd D then (0, 0, 0, 8) else (0, hdN isWrd D, 0, 0)) else if hdN isDig D < hdN isWrd D then (0, 0, hdN isDig D, 4) else if (valN 0 (D.take (hdN isWrd D))).isNone then (0, 0, 0, 2) else (1, hdN isWrd D, 0, 0) := by
  show (if hdN isWrd D = 0 then _ else _) = _
  rw [if_neg h0]
theorem sgn_mem (L : List Nat) (h : sgnN L = L.length) (h0 : sgnN L ≠ 0) : L ∈ sgT := by
  have hf := sgn_find L
  rw [if_neg h0, h, List.take_length] at hf
  exact List.mem_of_find?_eq_some hf
theorem sgT_nxt : ∀ t ∈ sgT, nxt t = (2, t.length, 0, 0) ∧ t.isEmpty = false := by decide
theorem fit_sign (L : List Nat) (hne : L.isEmpty = false) : (decide ((nxt L).2.2.2 = 0) && (decide ((nxt L).1 = 2) && decide ((nxt L).2.1 = L.length))) = decide (L ∈ sgT) := by
  by_cases hm : L ∈ sgT
  · rw [(sgT_nxt L hm).1]
    simp [hm]
  · rw [decide_eq_false hm]
    by_cases h0 : hdN isWrd L = 0
    · rw [nxt_zero h0]
      by_cases hs : sgnN L = 0
      · rw [if_pos hs]; rfl
      · rw [if_neg hs]
        have : sgnN L ≠ L.length := fun h => hm (sgn_mem L h hs)
        simp [this]
    · rw [nxt_word' h0]
      split
      · split <;> simp
      · split
        · simp
        · split <;> simp
theorem len_pos {L : List Nat} (h : L.isEmpty = false) : 0 < L.length := by
  cases L with
  | nil => cases h
  | cons x r => simp
theorem fit_name (L : List Nat) (hne : L.isEmpty = false) : (decide ((nxt L).2.2.2 = 0) && (decide ((nxt L).1 = 0) && decide ((nxt L).2.1 = L.length))) = nameB L := by
  have hp := len_pos hne
  unfold nameB
  rw [hne]
  by_cases h0 : hdN isWrd L = 0
  · rw [nxt_zero h0, h0]
    have : ¬ 0 = L.length := by omega
    split <;> simp [this]
  · rw [nxt_word' h0]
    cases hl : isLet (L.headD 0) with
    | true =>
      rw [if_pos rfl]
      by_cases h24 : 24 < hdN isWrd L
      · rw [if_pos h24]
        have h2 : ¬ (L.length ≤ 24 ∧ hdN isWrd L = L.length) := fun h => by omega
        by_cases h3 : L.length ≤ 24
        · have : ¬ hdN isWrd L = L.length := fun h => h2 ⟨h3, h⟩
          simp [this]
        · simp [h3]
      · rw [if_neg h24]
        by_cases h3 : hdN isWrd L = L.length
        · have : L.length ≤ 24 := by omega
          simp [h3, this]
        · simp [h3]
    | false =>
      rw [if_neg (by decide)]
      split
      · simp
      · split <;> simp
theorem wrd_all : ∀ L : List Nat, hdN isDig L = L.length → hdN isWrd L = L.length
  | [], _ => rfl
  | c :: r, h => by
    cases hd : isDig c with
    | false => rw [hdN_no hd] at h; simp at h
    | true =>
      rw [hdN_yes hd] at h
      rw [hdN_yes (wrd_of_dig hd), wrd_all r (by simpa using h)]
      rfl
theorem fit_num (L : List Nat) (hne : L.isEmpty = false) : (decide ((nxt L).2.2.2 = 0) && (decide ((nxt L).1 = 1) && decide ((nxt L).2.1 = L.length))) = numB L := by
  have hp := len_pos hne
  unfold numB
  rw [hne]
  by_cases hd : hdN isDig L = L.length
  · have hw := wrd_all L hd
    have h0 : ¬ hdN isWrd L = 0 := by omega
    have hl : isLet (L.headD 0) = false := by
      cases L with
      | nil => simp at hp
      | cons c r =>
        have h1 := dig_all _ hd c List.mem_cons_self
        exact dig_not_let h1
    rw [nxt_word' h0, hl, if_neg (by decide), hw, hd, if_neg (Nat.lt_irrefl _), List.take_length]
    cases hv : valN 0 L with
    | none => simp
    | some v => simp
  · have hf : (decide (hdN isDig L = L.length)) = false := decide_eq_false hd
    rw [hf]
    have hle := hdN_le isDig L
    by_cases h0 : hdN isWrd L = 0
    · rw [nxt_zero h0]
      split <;> simp
    · rw [nxt_word' h0]
      split
      · split <;> simp
      · split
        · simp
        · rename_i h1 h2
          have : ¬ hdN isWrd L = L.length := fun h => by omega
          split <;> simp [this]
theorem fit_eq (k : Nat) (hk : k ≤ 3) (L : List Nat) : fitR k L = fitB k L := by
  unfold fitR fitB
  obtain rfl | rfl | rfl | rfl : k = 0 ∨ k = 1 ∨ k = 2 ∨ k = 3 := by omega
  · cases h : L.isEmpty with
    | true =>
      have : L = [] := List.isEmpty_iff.1 h
      subst this
      rfl
    | false => simpa [h] using fit_name L h
  · cases h : L.isEmpty with
    | true =>
      have : L = [] := List.isEmpty_iff.1 h
      subst this
      rfl
    | false => simpa [h] using fit_num L h
  · cases h : L.isEmpty with
    | true =>
      have : L = [] := List.isEmpty_iff.1 h
      subst this
      decide
    | false => simpa [h] using fit_sign L h
  · rfl

end Go.Proofs.YtgckopicmobbgaaDoor.Lex
