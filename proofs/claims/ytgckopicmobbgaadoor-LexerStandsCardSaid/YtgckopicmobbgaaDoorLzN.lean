/- Plain facts: tokens stand at their places, separators between them. -/
import Derived.Test.YtgckopicmobbgaaDoorLzM
namespace Go.Proofs.YtgckopicmobbgaaDoor.Lex
set_option linter.unusedVariables false
set_option linter.unusedSimpArgs false

/-- What a byte makes of the comment's flag. -/
def cmt (b : Bool) (c : Nat) : Bool := decide (c = 35) || (b && decide (c ≠ 10))
/-- Bytes that may stand between tokens. -/
def gapB : Bool → List Nat → Bool
  | _, [] => true
  | b, c :: r => if cmt b c = true then gapB true r else isBlk c && gapB false r
theorem gap_sep : ∀ (b : Bool) (L : List Nat), gapB b (L.take (sepN b L)) = true
  | b, [] => by simp [sepN, gapB]
  | b, c :: r => by
    by_cases h1 : ((b && decide (c ≠ 10)) || decide (c = 35)) = true
    · have e1 : sepN b (c :: r) = sepN true r + 1 := by rw [sepN, if_pos h1]
      have h2 : cmt b c = true := by unfold cmt; rw [Bool.or_comm]; exact h1
      rw [e1, List.take_succ_cons, gapB, if_pos h2]
      exact gap_sep true r
    · have h2 : ¬ cmt b c = true := by unfold cmt; rw [Bool.or_comm]; exact h1
      by_cases h3 : isBlk c = true
      · have e1 : sepN b (c :: r) = sepN false r + 1 := by rw [sepN, if_neg h1, if_pos h3]
        rw [e1, List.take_succ_cons, gapB, if_neg h2, h3, Bool.true_and]
        exact gap_sep false r
      · have e1 : sepN b (c :: r) = 0 := by rw [sepN, if_neg h1, if_neg h3]
        rw [e1]
        rfl
/-- Tokens from a place on. -/
def Chn (L : List Nat) : Nat → List Tk → Prop
  | _, [] => False
  | p, t :: r => p ≤ t.pl ∧ t.pl + t.tx.length ≤ L.length ∧ (L.drop t.pl).take t.tx.length = t.tx ∧ gapB false ((L.drop p).take (t.pl - p)) = true ∧
    ((r = [] ∧ t.kd = 3 ∧ t.pl + t.tx.length = L.length) ∨ (r ≠ [] ∧ t.kd ≠ 3 ∧ Chn L (t.pl + t.tx.length) r))
theorem shT_zero (l : List Tk) : l.map (shT 0) = l := by
  have : shT 0 = id := by funext t; rfl
  rw [this, List.map_id]
theorem scanF_acc (k q : Nat) (D : List Nat) (pre : List Tk) (h : (scanF k q D pre).2.2 = 0) : (scanF k q D []).2.2 = 0 ∧ (scanF k q D pre).1 = pre ++ (scanF k q D []).1 := by
  have e := scanF_shift 0 k q D [] pre
  simp only [List.map_nil, List.append_nil, Nat.add_zero, shT_zero] at e
  by_cases h0 : (scanF k q D []).2.2 = 0
  · rw [if_pos h0] at e
    exact ⟨h0, by rw [e]⟩
  · rw [if_neg h0] at e
    rw [e] at h
    exact absurd h h0
theorem nxt_kd (D : List Nat) : (nxt D).1 ≠ 3 := by
  unfold nxt
  repeat' split
  all_goals simp
theorem chn_ne {L : List Nat} {p : Nat} {l : List Tk} (h : Chn L p l) : l ≠ [] := by
  rintro rfl
  exact h
theorem scanF_chn (L : List Nat) : ∀ (k q p : Nat), q ≤ L.length → p ≤ q → gapB false ((L.drop p).take (q - p)) = true → (L.drop q).length ≤ k → (scanF k q (L.drop q) []).2.2 = 0 → Chn L p (scanF k q (L.drop q) []).1
  | k, q, p, hq, hp, hg, hk, h => by
    by_cases hD : L.drop q = []
    · have hl : q = L.length := by
        have := congrArg List.length hD
        rw [List.length_drop] at this
        simp at this
        omega
      rw [hD, scanF_end]
      exact ⟨hp, by simp; omega, by simp, hg, .inl ⟨rfl, rfl, by simp [hl]⟩⟩
    · have hpos : 0 < (L.drop q).length := List.length_pos_iff.2 hD
      match k, hk, h with
      | 0, hk, h => omega
      | k + 1, hk, h =>
        by_cases he : (nxt (L.drop q)).2.2.2 = 0
        · have hn := nxt_pos _ he
          have hnl := nxt_le (L.drop q)
          have hkd := nxt_kd (L.drop q)
          have hsl := sepN_le false ((L.drop q).drop (nxt (L.drop q)).2.1)
          rw [scanF_next hD he] at h ⊢
          obtain ⟨h0, h1⟩ := scanF_acc _ _ _ _ h
          rw [h1]
          obtain ⟨n, hnn⟩ : ∃ n, (nxt (L.drop q)).2.1 = n := ⟨_, rfl⟩
          rw [hnn] at hn hnl hsl h0 ⊢
          obtain ⟨m, hm⟩ : ∃ m, sepN false ((L.drop q).drop n) = m := ⟨_, rfl⟩
          have hgap := gap_sep false ((L.drop q).drop n)
          rw [hm] at hsl h0 hgap ⊢
          rw [List.length_drop] at hnl
          rw [List.length_drop, List.length_drop] at hsl
          rw [List.drop_drop] at h0 hgap ⊢
          have hkl : (L.drop (q + (n + m))).length ≤ k := by
            rw [List.length_drop] at hk ⊢
            omega
          have ih := scanF_chn L k (q + (n + m)) (q + n) (by omega) (by omega) (by rw [show q + (n + m) - (q + n) = m by omega]; exact hgap) hkl h0
          have htl : ((L.drop q).take n).length = n := by rw [List.length_take, List.length_drop]; omega
          refine ⟨hp, by show q + ((L.drop q).take n).length ≤ _; omega, by show (L.drop q).take ((L.drop q).take n).length = _; rw [htl], hg, .inr ⟨chn_ne ih, hkd, ?_⟩⟩
          show Chn L (q + ((L.drop q).take n).length) _
          rw [htl]
          exact ih
        · rw [scanF_err hD he] at h
          exact absurd h he
theorem scanL_chn (L : List Nat) (hl : L.length ≤ 65536) (h : (scanL L).2.2 = 0) : Chn L 0 (scanL L).1 := by
  have e : scanL L = scanF L.length (sepN false L) (L.drop (sepN false L)) [] := by unfold scanL; rw [if_neg (by omega)]
  rw [e] at h ⊢
  exact scanF_chn L _ _ 0 (sepN_le false L) (Nat.zero_le _) (gap_sep false L) (by rw [List.length_drop]; omega) h
/-- Token after token. -/
theorem chn_at (L : List Nat) : ∀ (l : List Tk) (p i : Nat), Chn L p l → (hi : i < l.length) → ∃ p', p' = (if i = 0 then p else (l.getD (i - 1) ⟨0, [], 0⟩).pl + (l.getD (i - 1) ⟨0, [], 0⟩).tx.length) ∧ p' ≤ l[i].pl ∧ l[i].pl + l[i].tx.length ≤ L.length ∧ (L.drop l[i].pl).take l[i].tx.length = l[i].tx ∧ gapB false ((L.drop p').take (l[i].pl - p')) = true ∧ (i + 1 = l.length → l[i].kd = 3 ∧ l[i].pl + l[i].tx.length = L.length) ∧ (i + 1 ≠ l.length → l[i].kd ≠ 3)
  | [], p, i, h, hi => h.elim
  | t :: r, p, 0, h, hi => by
    obtain ⟨h1, h2, h3, h4, h5⟩ := h
    refine ⟨p, rfl, h1, h2, h3, h4, fun e => ?_, fun e => ?_⟩
    · rcases h5 with ⟨_, a, b⟩ | ⟨a, _⟩
      · exact ⟨a, b⟩
      · cases r with
        | nil => exact absurd rfl a
        | cons x y => simp at e
    · rcases h5 with ⟨a, _⟩ | ⟨_, a, _⟩
      · subst a
        exact absurd rfl e
      · exact a
  | t :: r, p, i + 1, h, hi => by
    obtain ⟨h1, h2, h3, h4, h5⟩ := h
    have hir : i < r.length := by simpa using hi
    rcases h5 with ⟨a, _⟩ | ⟨_, _, hc⟩
    · subst a
      simp at hir
    · obtain ⟨p', hp', g1, g2, g3, g4, g5, g6⟩ := chn_at L r (t.pl + t.tx.length) i hc hir
      refine ⟨p', ?_, g1, g2, g3, g4, fun e => g5 (by simpa using e), fun e => g6 (by simpa using e)⟩
      rw [hp']
      cases i with
      | zero => simp
      | succ j => rw [if_neg (by omega), if_neg (by omega)]; rfl

end Go.Proofs.YtgckopicmobbgaaDoor.Lex
