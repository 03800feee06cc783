/- Plain facts: the tokens of two texts with a line feed between them. -/
import Derived.Test.YtgckopicmobbgaaDoorLxM
namespace Go.Proofs.YtgckopicmobbgaaDoor.Lex
set_option linter.unusedVariables false
set_option linter.unusedSimpArgs false

/-- Separators ahead of a line feed. -/
theorem sep_lf : ∀ (D R : List Nat) (b : Bool), sepN b (D ++ 10 :: R) = if sepN b D = D.length then D.length + 1 + sepN false R else sepN b D
  | [], R, b => by
    rw [List.nil_append]
    have e : sepN b (10 :: R) = sepN false R + 1 := by cases b <;> simp [sepN, isBlk]
    rw [e, if_pos (by simp [sepN])]
    simp
    omega
  | c :: r, R, b => by
    rw [List.cons_append]
    have hle1 := sepN_le true r
    have hle2 := sepN_le false r
    by_cases h1 : ((b && decide (c ≠ 10)) || decide (c = 35)) = true
    · have e1 : sepN b (c :: (r ++ 10 :: R)) = sepN true (r ++ 10 :: R) + 1 := by rw [sepN, if_pos h1]
      have e2 : sepN b (c :: r) = sepN true r + 1 := by rw [sepN, if_pos h1]
      rw [e1, e2, sep_lf r R true, List.length_cons]
      by_cases h : sepN true r = r.length
      · rw [if_pos h, if_pos (by omega)]; omega
      · rw [if_neg h, if_neg (by omega)]
    · by_cases h2 : isBlk c = true
      · have e1 : sepN b (c :: (r ++ 10 :: R)) = sepN false (r ++ 10 :: R) + 1 := by rw [sepN, if_neg h1, if_pos h2]
        have e2 : sepN b (c :: r) = sepN false r + 1 := by rw [sepN, if_neg h1, if_pos h2]
        rw [e1, e2, sep_lf r R false, List.length_cons]
        by_cases h : sepN false r = r.length
        · rw [if_pos h, if_pos (by omega)]; omega
        · rw [if_neg h, if_neg (by omega)]
      · have e1 : sepN b (c :: (r ++ 10 :: R)) = 0 := by rw [sepN, if_neg h1, if_neg h2]
        have e2 : sepN b (c :: r) = 0 := by rw [sepN, if_neg h1, if_neg h2]
        rw [e1, e2, if_neg (by simp)]
theorem hd_lf (p : Nat → Bool) (hp : p 10 = false) : ∀ (D R : List Nat), hdN p (D ++ 10 :: R) = hdN p D
  | [], R => hdN_no hp
  | c :: r, R => by
    rw [List.cons_append]
    cases hc : p c with
    | true => rw [hdN_yes hc, hdN_yes hc, hd_lf p hp r R]
    | false => rw [hdN_no hc, hdN_no hc]
theorem sgn_lf (c : Nat) (r R : List Nat) : sgnN (c :: r ++ 10 :: R) = sgnN (c :: r) := by
  cases r with
  | nil => simp [sgnN]
  | cons d t => simp [sgnN]
theorem take_lf {D R : List Nat} {n : Nat} (h : n ≤ D.length) : (D ++ 10 :: R).take n = D.take n := List.take_append_of_le_length h
theorem nxt_lf (c : Nat) (r R : List Nat) : nxt (c :: r ++ 10 :: R) = nxt (c :: r) := by
  unfold nxt
  rw [hd_lf isWrd (by decide), hd_lf isDig (by decide), sgn_lf, take_lf (hdN_le isWrd (c :: r))]
  rfl
/-- More fuel changes nothing. -/
theorem scanF_fuel : ∀ (k q : Nat) (D : List Nat) (acc : List Tk), D.length ≤ k → ∀ K, D.length ≤ K → scanF K q D acc = scanF k q D acc
  | 0, q, D, acc, h, K, _ => by
    have : D = [] := List.eq_nil_of_length_eq_zero (by omega)
    subst this
    rw [scanF_end, scanF_end]
  | k + 1, q, D, acc, h, K, hK => by
    by_cases hD : D = []
    · subst hD
      rw [scanF_end, scanF_end]
    · have hpos : 0 < D.length := List.length_pos_iff.2 hD
      obtain ⟨K, rfl⟩ : ∃ K', K = K' + 1 := ⟨K - 1, by omega⟩
      by_cases he : (nxt D).2.2.2 = 0
      · have hn := nxt_pos D he
        rw [scanF_next hD he, scanF_next hD he]
        have hl : (D.drop ((nxt D).2.1 + sepN false (D.drop (nxt D).2.1))).length + 1 ≤ D.length := by rw [List.length_drop]; omega
        exact scanF_fuel k _ _ _ (by omega) K (by omega)
      · rw [scanF_err hD he, scanF_err hD he]
def shT (s : Nat) (t : Tk) : Tk := ⟨t.kd, t.tx, t.pl + s⟩
/-- Scanning from another place on, behind other tokens. -/
theorem scanF_shift (s : Nat) : ∀ (k q : Nat) (D : List Nat) (acc pre : List Tk), scanF k (q + s) D (pre ++ acc.map (shT s)) = if (scanF k q D acc).2.2 = 0 then (pre ++ (scanF k q D acc).1.map (shT s), (scanF k q D acc).2.1, 0) else ([], (scanF k q D acc).2.1 + s, (scanF k q D acc).2.2)
  | 0, q, D, acc, pre => by simp [scanF, shT]
  | k + 1, q, D, acc, pre => by
    by_cases hD : D = []
    · subst hD
      rw [scanF_end, scanF_end]
      simp [shT]
    · by_cases he : (nxt D).2.2.2 = 0
      · rw [scanF_next hD he, scanF_next hD he]
        have ih := scanF_shift s k (q + ((nxt D).2.1 + sepN false (D.drop (nxt D).2.1))) (D.drop ((nxt D).2.1 + sepN false (D.drop (nxt D).2.1))) (acc ++ [⟨(nxt D).1, D.take (nxt D).2.1, q⟩]) pre
        rw [← ih, List.map_append, List.append_assoc]
        congr 1
        omega
      · rw [scanF_err hD he, scanF_err hD he]
        rw [if_neg he]
        show (([] : List Tk), q + s + (nxt D).2.2.1, (nxt D).2.2.2) = ([], q + (nxt D).2.2.1 + s, (nxt D).2.2.2)
        rw [Nat.add_right_comm]
/-- Behind the tokens of a first text, those of the second. -/
theorem scanF_lf (B : List Nat) : ∀ (k q : Nat) (D : List Nat) (acc : List Tk), D ≠ [] → D.length ≤ k → ∀ K, D.length + 1 + B.length ≤ K →
    ((scanF k q D acc).2.2 ≠ 0 ∧ scanF K q (D ++ 10 :: B) acc = scanF k q D acc) ∨ ((scanF k q D acc).2.2 = 0 ∧ (scanF k q D acc).2.1 = 0 ∧ ∃ l', (scanF k q D acc).1 = l' ++ [⟨3, [], q + D.length⟩] ∧ scanF K q (D ++ 10 :: B) acc = scanF B.length (q + D.length + 1 + sepN false B) (B.drop (sepN false B)) l')
  | 0, q, D, acc, hD, h, K, hK => absurd (List.eq_nil_of_length_eq_zero (by omega)) hD
  | k + 1, q, D, acc, hD, h, K, hK => by
    obtain ⟨K, rfl⟩ : ∃ K', K = K' + 1 := ⟨K - 1, by omega⟩
    have hD2 : D ++ 10 :: B ≠ [] := by simp
    have hnx : nxt (D ++ 10 :: B) = nxt D := by
      cases D with
      | nil => exact absurd rfl hD
      | cons c r => exact nxt_lf c r B
    by_cases he : (nxt D).2.2.2 = 0
    · have hn := nxt_pos D he
      have hnl := nxt_le D
      have he2 : (nxt (D ++ 10 :: B)).2.2.2 = 0 := by rw [hnx]; exact he
      rw [scanF_next hD he, scanF_next hD2 he2, hnx, take_lf hnl]
      obtain ⟨n, hnn⟩ : ∃ n, (nxt D).2.1 = n := ⟨_, rfl⟩
      rw [hnn] at hn hnl ⊢
      rw [List.drop_append_of_le_length hnl, sep_lf]
      have hdl : (D.drop n).length = D.length - n := List.length_drop
      have hsl := sepN_le false (D.drop n)
      rw [hdl] at hsl ⊢
      by_cases hall : sepN false (D.drop n) = D.length - n
      · rw [if_pos hall, hall]
        have e1 : D.drop (n + (D.length - n)) = [] := List.drop_eq_nil_of_le (by omega)
        have e2 : (D ++ 10 :: B).drop (n + (D.length - n + 1 + sepN false B)) = B.drop (sepN false B) := by
          rw [show n + (D.length - n + 1 + sepN false B) = D.length + (sepN false B + 1) by omega, List.drop_append, List.drop_eq_nil_of_le (by omega), Nat.add_sub_cancel_left]
          rfl
        rw [e1, scanF_end, e2]
        refine .inr ⟨rfl, rfl, acc ++ [⟨(nxt D).1, D.take n, q⟩], ?_, ?_⟩
        · show _ ++ [_] = _ ++ [_]
          congr 3
          omega
        · rw [show q + (n + (D.length - n + 1 + sepN false B)) = q + D.length + 1 + sepN false B by omega]
          refine scanF_fuel _ _ _ _ ?_ _ ?_
          · rw [List.length_drop]; omega
          · rw [List.length_drop]; omega
      · rw [if_neg hall]
        obtain ⟨m, hm⟩ : ∃ m, sepN false (D.drop n) = m := ⟨_, rfl⟩
        rw [hm] at hall hsl ⊢
        have hlt : n + m < D.length := by omega
        have hne : D.drop (n + m) ≠ [] := by
          intro e
          have := congrArg List.length e
          rw [List.length_drop] at this
          simp at this
          omega
        have e2 : (D ++ 10 :: B).drop (n + m) = D.drop (n + m) ++ 10 :: B := List.drop_append_of_le_length (by omega)
        rw [e2]
        have hl2 : (D.drop (n + m)).length = D.length - (n + m) := List.length_drop
        have ih := scanF_lf B k (q + (n + m)) (D.drop (n + m)) (acc ++ [⟨(nxt D).1, D.take n, q⟩]) hne (by omega) K (by omega)
        rw [hl2, show q + (n + m) + (D.length - (n + m)) = q + D.length by omega] at ih
        exact ih
    · have he2 : (nxt (D ++ 10 :: B)).2.2.2 ≠ 0 := by rw [hnx]; exact he
      rw [scanF_err hD he, scanF_err hD2 he2, hnx]
      exact .inl ⟨he, rfl⟩
/-- With an error there are no tokens. -/
theorem scanF_bad : ∀ (k q : Nat) (D : List Nat) (acc : List Tk), (scanF k q D acc).2.2 ≠ 0 → (scanF k q D acc).1 = []
  | 0, q, D, acc, h => by simp [scanF] at h
  | k + 1, q, D, acc, h => by
    by_cases hD : D = []
    · subst hD
      rw [scanF_end] at h
      simp at h
    · by_cases he : (nxt D).2.2.2 = 0
      · rw [scanF_next hD he] at h ⊢
        exact scanF_bad k _ _ _ h
      · rw [scanF_err hD he]
/-- What two texts with a line feed between them give. -/
theorem scanL_lf (A B : List Nat) (h : A.length + B.length ≤ 300) :
    ((scanL A).2.2 ≠ 0 ∧ scanL (A ++ 10 :: B) = ([], (scanL A).2.1, (scanL A).2.2)) ∨
    ((scanL A).2.2 = 0 ∧ (scanL A).2.1 = 0 ∧ ∃ l', (scanL A).1 = l' ++ [⟨3, [], A.length⟩] ∧ scanL (A ++ 10 :: B) = if (scanL B).2.2 = 0 then (l' ++ (scanL B).1.map (shT (A.length + 1)), (scanL B).2.1, 0) else ([], (scanL B).2.1 + (A.length + 1), (scanL B).2.2)) := by
  have hAB : (A ++ 10 :: B).length = A.length + 1 + B.length := by simp; omega
  have eA : scanL A = scanF A.length (sepN false A) (A.drop (sepN false A)) [] := by unfold scanL; rw [if_neg (by omega)]
  have eB : scanL B = scanF B.length (sepN false B) (B.drop (sepN false B)) [] := by unfold scanL; rw [if_neg (by omega)]
  have eC : scanL (A ++ 10 :: B) = scanF (A ++ 10 :: B).length (sepN false (A ++ 10 :: B)) ((A ++ 10 :: B).drop (sepN false (A ++ 10 :: B))) [] := by unfold scanL; rw [if_neg (by omega)]
  have hs := fun l' : List Tk => scanF_shift (A.length + 1) B.length (sepN false B) (B.drop (sepN false B)) [] l'
  simp only [List.map_nil, List.append_nil] at hs
  rw [← eB] at hs
  have hsl := sepN_le false A
  rw [eC, sep_lf, hAB]
  by_cases hall : sepN false A = A.length
  · have e1 : A.drop A.length = [] := List.drop_length
    rw [if_pos hall]
    rw [hall, e1, scanF_end] at eA
    have e2 : (A ++ 10 :: B).drop (A.length + 1 + sepN false B) = B.drop (sepN false B) := by
      rw [show A.length + 1 + sepN false B = A.length + (sepN false B + 1) by omega, List.drop_append, List.drop_eq_nil_of_le (by omega), Nat.add_sub_cancel_left]
      rfl
    rw [e2]
    refine .inr ⟨by rw [eA], by rw [eA], [], by rw [eA], ?_⟩
    rw [scanF_fuel B.length _ _ _ (by rw [List.length_drop]; omega) _ (by rw [List.length_drop]; omega), show A.length + 1 + sepN false B = sepN false B + (A.length + 1) by omega]
    exact hs []
  · rw [if_neg hall]
    have hne : A.drop (sepN false A) ≠ [] := by
      intro e
      have := congrArg List.length e
      rw [List.length_drop] at this
      simp at this
      omega
    have e2 : (A ++ 10 :: B).drop (sepN false A) = A.drop (sepN false A) ++ 10 :: B := List.drop_append_of_le_length hsl
    rw [e2]
    have hdl : (A.drop (sepN false A)).length = A.length - sepN false A := List.length_drop
    have ih := scanF_lf B A.length (sepN false A) (A.drop (sepN false A)) [] hne (by omega) (A.length + 1 + B.length) (by omega)
    rw [← eA, hdl, show sepN false A + (A.length - sepN false A) = A.length by omega] at ih
    rcases ih with ⟨h1, h2⟩ | ⟨h1, h2, l', h3, h4⟩
    · refine .inl ⟨h1, ?_⟩
      rw [h2]
      have h5 := scanF_bad A.length (sepN false A) (A.drop (sepN false A)) []
      rw [← eA] at h5
      have h6 := h5 h1
      rw [← h6]
    · refine .inr ⟨h1, h2, l', h3, ?_⟩
      rw [h4, show A.length + 1 + sepN false B = sepN false B + (A.length + 1) by omega]
      exact hs l'
theorem nxt_at (D : List Nat) : (nxt D).2.2.1 ≤ D.length := by
  have h1 := hdN_le isDig D
  unfold nxt
  repeat' split
  all_goals first | exact Nat.zero_le _ | exact h1
/-- Places lie in the text. -/
theorem scanF_bd : ∀ (k q : Nat) (D : List Nat) (acc : List Tk), (∀ t ∈ (scanF k q D acc).1, t ∈ acc ∨ t.pl ≤ q + D.length) ∧ (scanF k q D acc).2.1 ≤ q + D.length
  | 0, q, D, acc => by
    refine ⟨fun t ht => ?_, Nat.zero_le _⟩
    rcases List.mem_append.1 ht with h | h
    · exact .inl h
    · rw [List.mem_singleton.1 h]
      exact .inr (Nat.le_add_right _ _)
  | k + 1, q, D, acc => by
    by_cases hD : D = []
    · subst hD
      rw [scanF_end]
      refine ⟨fun t ht => ?_, Nat.zero_le _⟩
      rcases List.mem_append.1 ht with h | h
      · exact .inl h
      · rw [List.mem_singleton.1 h]
        exact .inr (Nat.le_add_right _ _)
    · by_cases he : (nxt D).2.2.2 = 0
      · rw [scanF_next hD he]
        obtain ⟨h1, h2⟩ := scanF_bd k (q + ((nxt D).2.1 + sepN false (D.drop (nxt D).2.1))) (D.drop ((nxt D).2.1 + sepN false (D.drop (nxt D).2.1))) (acc ++ [⟨(nxt D).1, D.take (nxt D).2.1, q⟩])
        have hnl := nxt_le D
        have hsl := sepN_le false (D.drop (nxt D).2.1)
        rw [List.length_drop] at h1 h2 hsl
        refine ⟨fun t ht => ?_, by omega⟩
        rcases h1 t ht with h | h
        · rcases List.mem_append.1 h with h | h
          · exact .inl h
          · rw [List.mem_singleton.1 h]
            exact .inr (Nat.le_add_right _ _)
        · exact .inr (by omega)
      · rw [scanF_err hD he]
        exact ⟨fun t ht => by simp at ht, Nat.add_le_add_left (nxt_at D) q⟩
theorem scanL_bd (L : List Nat) (h : L.length ≤ 65536) : (∀ t ∈ (scanL L).1, t.pl ≤ L.length) ∧ (scanL L).2.1 ≤ L.length := by
  have e : scanL L = scanF L.length (sepN false L) (L.drop (sepN false L)) [] := by unfold scanL; rw [if_neg (by omega)]
  rw [e]
  obtain ⟨h1, h2⟩ := scanF_bd L.length (sepN false L) (L.drop (sepN false L)) []
  have hsl := sepN_le false L
  rw [List.length_drop] at h1 h2
  refine ⟨fun t ht => ?_, by omega⟩
  rcases h1 t ht with h | h
  · simp at h
  · omega

end Go.Proofs.YtgckopicmobbgaaDoor.Lex
