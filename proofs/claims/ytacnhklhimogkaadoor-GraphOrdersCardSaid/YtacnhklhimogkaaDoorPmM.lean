/- Plain facts on graphs and permutations: products of well-formed graphs are well-formed and associative, silent graphs are neutral, products distribute over unions, renaming commutes with products, and is undone by the inverse. -/
import Derived.Test.YtacnhklhimogkaaDoorPmA
namespace Go.Proofs.YtacnhklhimogkaaDoor
set_option linter.unusedVariables false
set_option linter.unusedSimpArgs false

theorem tb_iff (x p : Nat) : x / 2 ^ p % 2 = 1 ↔ x.testBit p = true := by rw [Nat.testBit_eq_decide_div_mod_eq]; simp

theorem tb_prow (a : Nat → Nat) (y i : Nat) : ∀ n, (prow a y n).testBit i = true ↔ ∃ m, m < n ∧ y.testBit m = true ∧ (a m).testBit i = true
  | 0 => by simp [prow]
  | n + 1 => by
    unfold prow
    have ih := tb_prow a y i n
    by_cases h : y / 2 ^ n % 2 = 1
    · rw [if_pos h, Nat.testBit_or, Bool.or_eq_true, ih]
      constructor
      · rintro (⟨m, h1, h2, h3⟩ | h1)
        · exact ⟨m, by omega, h2, h3⟩
        · exact ⟨n, by omega, (tb_iff _ _).1 h, h1⟩
      · rintro ⟨m, h1, h2, h3⟩
        by_cases e : m = n
        · subst e; exact .inr h3
        · exact .inl ⟨m, by omega, h2, h3⟩
    · rw [if_neg h, ih]
      constructor
      · rintro ⟨m, h1, h2, h3⟩; exact ⟨m, by omega, h2, h3⟩
      · rintro ⟨m, h1, h2, h3⟩
        by_cases e : m = n
        · subst e; exact absurd ((tb_iff _ _).2 h2) h
        · exact ⟨m, by omega, h2, h3⟩

theorem tb_lt {x n i : Nat} (hx : x < 2 ^ n) (h : x.testBit i = true) : i < n := by
  rcases Nat.lt_or_ge i n with h' | h'
  · exact h'
  · rw [Nat.testBit_lt_two_pow (Nat.lt_of_lt_of_le hx (Nat.pow_le_pow_right (by omega) h'))] at h; cases h

theorem tb_ext {x y n : Nat} (hx : x < 2 ^ n) (hy : y < 2 ^ n) (h : ∀ i, i < n → (x.testBit i = true ↔ y.testBit i = true)) : x = y := by
  apply Nat.eq_of_testBit_eq
  intro i
  by_cases hi : i < n
  · exact Bool.eq_iff_iff.2 (h i hi)
  · rw [Nat.testBit_lt_two_pow (Nat.lt_of_lt_of_le hx (Nat.pow_le_pow_right (by omega) (by omega))), Nat.testBit_lt_two_pow (Nat.lt_of_lt_of_le hy (Nat.pow_le_pow_right (by omega) (by omega)))]

theorem wf_row {n : Nat} {k : Nat → Nat} (h : WF n k) {p : Nat} (hp : p < n) : k p < 2 ^ n := (h.2.1 p hp).1

theorem prod_lt {n : Nat} {a b : Nat → Nat} (ha : WF n a) (p : Nat) : prod n a b p < 2 ^ n := by
  unfold prod; split
  · exact prow_lt n (fun p hp => wf_row ha hp)
  · exact Nat.pow_pos (by omega)

theorem tb_prod {n : Nat} {a b : Nat → Nat} {p i : Nat} (hp : p < n) : (prod n a b p).testBit i = true ↔ ∃ m, m < n ∧ (b p).testBit m = true ∧ (a m).testBit i = true := by
  unfold prod; rw [if_pos hp, tb_prow]

theorem wf_prod {n : Nat} {a b : Nat → Nat} (ha : WF n a) (hb : WF n b) : WF n (prod n a b) :=
  ⟨ha.1, fun p hp => ⟨prod_lt ha p, (tb_iff _ _).2 ((tb_prod hp).2 ⟨p, hp, (tb_iff _ _).1 (hb.2.1 p hp).2, (tb_iff _ _).1 (ha.2.1 p hp).2⟩)⟩, fun p hp _ => by unfold prod; rw [if_neg (by omega)]⟩

/-- Two graphs with the same rows below n are the same behind them, too. -/
theorem wf_ext {n : Nat} {a b : Nat → Nat} (ha : WF n a) (hb : WF n b) (h : ∀ p, p < n → ∀ i, i < n → ((a p).testBit i = true ↔ (b p).testBit i = true)) {p : Nat} (hp : p < 5) : a p = b p := by
  by_cases hn : p < n
  · exact tb_ext (wf_row ha hn) (wf_row hb hn) (h p hn)
  · rw [ha.2.2 p (by omega) hp, hb.2.2 p (by omega) hp]

theorem prod_assoc {n : Nat} {a b c : Nat → Nat} (ha : WF n a) (hb : WF n b) (hc : WF n c) {p : Nat} (hp : p < 5) : prod n (prod n a b) c p = prod n a (prod n b c) p := by
  refine wf_ext (wf_prod (wf_prod ha hb) hc) (wf_prod ha (wf_prod hb hc)) (fun p hp i _ => ?_) hp
  rw [tb_prod hp, tb_prod hp]
  constructor
  · rintro ⟨m, hm, h1, h2⟩
    obtain ⟨l, hl, h3, h4⟩ := (tb_prod hm).1 h2
    exact ⟨l, hl, (tb_prod hp).2 ⟨m, hm, h1, h3⟩, h4⟩
  · rintro ⟨l, hl, h1, h2⟩
    obtain ⟨m, hm, h3, h4⟩ := (tb_prod hp).1 h1
    exact ⟨m, hm, h3, (tb_prod hm).2 ⟨l, hl, h4, h2⟩⟩

/-- The silent graph. -/
def sil (n p : Nat) : Nat := if p < n then 2 ^ p else 0
theorem wf_sil {n : Nat} (h : 1 ≤ n ∧ n ≤ 5) : WF n (sil n) :=
  ⟨h, fun p hp => by unfold sil; rw [if_pos hp]; exact ⟨Nat.pow_lt_pow_right (by omega) hp, by rw [Nat.div_self (Nat.pow_pos (by omega))]⟩, fun p hp _ => by unfold sil; rw [if_neg (by omega)]⟩
theorem prod_sil {n : Nat} {a : Nat → Nat} (ha : WF n a) {p : Nat} (hp : p < 5) : prod n (sil n) a p = a p := by
  refine wf_ext (wf_prod (wf_sil ha.1) ha) ha (fun p hp i hi => ?_) hp
  rw [tb_prod hp]
  constructor
  · rintro ⟨m, hm, h1, h2⟩
    unfold sil at h2
    rw [if_pos hm, Nat.testBit_two_pow] at h2
    simp at h2
    subst h2
    exact h1
  · intro h
    exact ⟨i, hi, h, by unfold sil; rw [if_pos hi, Nat.testBit_two_pow]; simp⟩

theorem wf_or' {n : Nat} {a b : Nat → Nat} (ha : WF n a) (hb : WF n b) : WF n (fun p => a p ||| b p) :=
  ⟨ha.1, fun p hp => ⟨Nat.or_lt_two_pow (wf_row ha hp) (wf_row hb hp), (tb_iff _ _).2 (by rw [Nat.testBit_or, (tb_iff _ _).1 (ha.2.1 p hp).2]; rfl)⟩, fun p hp h5 => by show a p ||| b p = 0; rw [ha.2.2 p hp h5, hb.2.2 p hp h5]; rfl⟩

theorem prod_or {n : Nat} {a b c : Nat → Nat} (ha : WF n a) (hb : WF n b) (hc : WF n c) {p : Nat} (hp : p < 5) : prod n (fun p => a p ||| b p) c p = prod n a c p ||| prod n b c p := by
  refine wf_ext (wf_prod (wf_or' ha hb) hc) (wf_or' (wf_prod ha hc) (wf_prod hb hc)) (fun p hp i hi => ?_) hp
  rw [tb_prod hp, Nat.testBit_or, Bool.or_eq_true, tb_prod hp, tb_prod hp]
  constructor
  · rintro ⟨m, hm, h1, h2⟩
    rw [Nat.testBit_or, Bool.or_eq_true] at h2
    rcases h2 with h | h
    · exact .inl ⟨m, hm, h1, h⟩
    · exact .inr ⟨m, hm, h1, h⟩
  · rintro (⟨m, hm, h1, h2⟩ | ⟨m, hm, h1, h2⟩)
    · exact ⟨m, hm, h1, by rw [Nat.testBit_or, h2]; rfl⟩
    · exact ⟨m, hm, h1, by rw [Nat.testBit_or, h2, Bool.or_true]⟩

/-- A permutation of the numbers below n. -/
structure Perm (n : Nat) (f : Nat → Nat) : Prop where
  lt : ∀ p, p < n → f p < n
  inj : ∀ p q, p < n → q < n → f p = f q → p = q

theorem surj5 : ∀ a b c d e r : Fin 5, a ≠ b → a ≠ c → a ≠ d → a ≠ e → b ≠ c → b ≠ d → b ≠ e → c ≠ d → c ≠ e → d ≠ e → r = a ∨ r = b ∨ r = c ∨ r = d ∨ r = e := by decide +kernel
theorem surj4 : ∀ a b c d r : Fin 4, a ≠ b → a ≠ c → a ≠ d → b ≠ c → b ≠ d → c ≠ d → r = a ∨ r = b ∨ r = c ∨ r = d := by decide +kernel
theorem surj3 : ∀ a b c r : Fin 3, a ≠ b → a ≠ c → b ≠ c → r = a ∨ r = b ∨ r = c := by decide +kernel
theorem surj2 : ∀ a b r : Fin 2, a ≠ b → r = a ∨ r = b := by decide +kernel

theorem Perm.surj {n : Nat} {f : Nat → Nat} (h : Perm n f) (hn : n ≤ 5) {r : Nat} (hr : r < n) : ∃ q, q < n ∧ f q = r := by
  have ne : ∀ p q, p < n → q < n → p ≠ q → f p ≠ f q := fun p q hp hq hne e => hne (h.inj p q hp hq e)
  have l := h.lt
  obtain rfl | rfl | rfl | rfl | rfl | rfl : n = 0 ∨ n = 1 ∨ n = 2 ∨ n = 3 ∨ n = 4 ∨ n = 5 := by omega
  · omega
  · have := l 0 (by omega); exact ⟨0, by omega, by omega⟩
  · have := surj2 ⟨f 0, l 0 (by omega)⟩ ⟨f 1, l 1 (by omega)⟩ ⟨r, hr⟩ (by simpa using ne 0 1 (by omega) (by omega) (by omega))
    simp at this
    rcases this with e | e
    · exact ⟨0, by omega, e.symm⟩
    · exact ⟨1, by omega, e.symm⟩
  · have := surj3 ⟨f 0, l 0 (by omega)⟩ ⟨f 1, l 1 (by omega)⟩ ⟨f 2, l 2 (by omega)⟩ ⟨r, hr⟩ (by simpa using ne 0 1 (by omega) (by omega) (by omega)) (by simpa using ne 0 2 (by omega) (by omega) (by omega)) (by simpa using ne 1 2 (by omega) (by omega) (by omega))
    simp at this
    rcases this with e | e | e
    · exact ⟨0, by omega, e.symm⟩
    · exact ⟨1, by omega, e.symm⟩
    · exact ⟨2, by omega, e.symm⟩
  · have := surj4 ⟨f 0, l 0 (by omega)⟩ ⟨f 1, l 1 (by omega)⟩ ⟨f 2, l 2 (by omega)⟩ ⟨f 3, l 3 (by omega)⟩ ⟨r, hr⟩ (by simpa using ne 0 1 (by omega) (by omega) (by omega)) (by simpa using ne 0 2 (by omega) (by omega) (by omega)) (by simpa using ne 0 3 (by omega) (by omega) (by omega)) (by simpa using ne 1 2 (by omega) (by omega) (by omega)) (by simpa using ne 1 3 (by omega) (by omega) (by omega)) (by simpa using ne 2 3 (by omega) (by omega) (by omega))
    simp at this
    rcases this with e | e | e | e
    · exact ⟨0, by omega, e.symm⟩
    · exact ⟨1, by omega, e.symm⟩
    · exact ⟨2, by omega, e.symm⟩
    · exact ⟨3, by omega, e.symm⟩
  · have := surj5 ⟨f 0, l 0 (by omega)⟩ ⟨f 1, l 1 (by omega)⟩ ⟨f 2, l 2 (by omega)⟩ ⟨f 3, l 3 (by omega)⟩ ⟨f 4, l 4 (by omega)⟩ ⟨r, hr⟩ (by simpa using ne 0 1 (by omega) (by omega) (by omega)) (by simpa using ne 0 2 (by omega) (by omega) (by omega)) (by simpa using ne 0 3 (by omega) (by omega) (by omega)) (by simpa using ne 0 4 (by omega) (by omega) (by omega)) (by simpa using ne 1 2 (by omega) (by omega) (by omega)) (by simpa using ne 1 3 (by omega) (by omega) (by omega)) (by simpa using ne 1 4 (by omega) (by omega) (by omega)) (by simpa using ne 2 3 (by omega) (by omega) (by omega)) (by simpa using ne 2 4 (by omega) (by omega) (by omega)) (by simpa using ne 3 4 (by omega) (by omega) (by omega))
    simp at this
    rcases this with e | e | e | e | e
    · exact ⟨0, by omega, e.symm⟩
    · exact ⟨1, by omega, e.symm⟩
    · exact ⟨2, by omega, e.symm⟩
    · exact ⟨3, by omega, e.symm⟩
    · exact ⟨4, by omega, e.symm⟩

/-- The image of a set: what the loop over the first m processes has gathered. -/
def img (f : Nat → Nat) (s : Nat) : Nat → Nat
  | 0 => 0
  | m + 1 => img f s m ||| s / 2 ^ m % 2 * 2 ^ f m

theorem img_lt {n : Nat} {f : Nat → Nat} (s : Nat) : ∀ m, (∀ p, p < m → f p < n) → img f s m < 2 ^ n
  | 0, _ => Nat.pow_pos (by omega)
  | m + 1, h => by
    unfold img
    refine Nat.or_lt_two_pow (img_lt s m (fun p hp => h p (by omega))) ?_
    have h1 : (2 : Nat) ^ f m < 2 ^ n := Nat.pow_lt_pow_right (by omega) (h m (by omega))
    have h2 : s / 2 ^ m % 2 < 2 := Nat.mod_lt _ (by omega)
    obtain h0 | h0 : s / 2 ^ m % 2 = 0 ∨ s / 2 ^ m % 2 = 1 := by omega
    · rw [h0]; simpa using Nat.pow_pos (n := n) (show 0 < 2 by omega)
    · rw [h0]; simpa using h1

theorem tb_img (f : Nat → Nat) (s i : Nat) : ∀ n, (img f s n).testBit i = true ↔ ∃ m, m < n ∧ f m = i ∧ s.testBit m = true
  | 0 => by simp [img]
  | n + 1 => by
    unfold img
    have ih := tb_img f s i n
    rw [Nat.testBit_or, Bool.or_eq_true, ih]
    by_cases h : s / 2 ^ n % 2 = 1
    · rw [h, Nat.one_mul, Nat.testBit_two_pow]
      constructor
      · rintro (⟨m, h1, h2, h3⟩ | h1)
        · exact ⟨m, by omega, h2, h3⟩
        · exact ⟨n, by omega, by simpa using h1, (tb_iff _ _).1 h⟩
      · rintro ⟨m, h1, h2, h3⟩
        by_cases e : m = n
        · subst e; exact .inr (by simpa using h2)
        · exact .inl ⟨m, by omega, h2, h3⟩
    · have h0 : s / 2 ^ n % 2 = 0 := by omega
      rw [h0, Nat.zero_mul, Nat.zero_testBit]
      constructor
      · rintro (⟨m, h1, h2, h3⟩ | h1)
        · exact ⟨m, by omega, h2, h3⟩
        · cases h1
      · rintro ⟨m, h1, h2, h3⟩
        by_cases e : m = n
        · subst e; exact absurd ((tb_iff _ _).2 h3) h
        · exact .inl ⟨m, by omega, h2, h3⟩

/-- The renamed graph: what the loop over the first m rows has stored. -/
def pgr (n : Nat) (f k : Nat → Nat) : Nat → Nat → Nat
  | 0, _ => 0
  | m + 1, i => if i = f m then img f (k m) n else pgr n f k m i

theorem pgr_at {n : Nat} {f k : Nat → Nat} (h : Perm n f) : ∀ m, m ≤ n → ∀ q, q < m → pgr n f k m (f q) = img f (k q) n
  | 0, _, q, hq => by omega
  | m + 1, hm, q, hq => by
    unfold pgr
    by_cases e : q = m
    · subst e; rw [if_pos rfl]
    · rw [if_neg (fun e' => e (h.inj q m (by omega) (by omega) e'))]
      exact pgr_at h m (by omega) q (by omega)
theorem pgr_off {n : Nat} {f k : Nat → Nat} (h : Perm n f) : ∀ m, m ≤ n → ∀ i, n ≤ i → pgr n f k m i = 0
  | 0, _, _, _ => rfl
  | m + 1, hm, i, hi => by
    unfold pgr
    rw [if_neg (by have := h.lt m (by omega); omega)]
    exact pgr_off h m (by omega) i hi

theorem wf_pgr {n : Nat} {f k : Nat → Nat} (h : Perm n f) (hk : WF n k) : WF n (pgr n f k n) := by
  refine ⟨hk.1, fun p hp => ?_, fun p hp _ => pgr_off h n (by omega) p hp⟩
  obtain ⟨q, hq, rfl⟩ := h.surj hk.1.2 hp
  rw [pgr_at h n (by omega) q hq]
  exact ⟨img_lt _ n h.lt, (tb_iff _ _).2 ((tb_img _ _ _ _).2 ⟨q, hq, rfl, (tb_iff _ _).1 (hk.2.1 q hq).2⟩)⟩

theorem pgr_prod {n : Nat} {f a b : Nat → Nat} (h : Perm n f) (ha : WF n a) (hb : WF n b) {p : Nat} (hp : p < 5) : prod n (pgr n f a n) (pgr n f b n) p = pgr n f (prod n a b) n p := by
  refine wf_ext (wf_prod (wf_pgr h ha) (wf_pgr h hb)) (wf_pgr h (wf_prod ha hb)) (fun p hp i _ => ?_) hp
  obtain ⟨q, hq, rfl⟩ := h.surj ha.1.2 hp
  rw [tb_prod hp, pgr_at h n (by omega) q hq, pgr_at h n (by omega) q hq, tb_img]
  constructor
  · rintro ⟨m, hm, h1, h2⟩
    obtain ⟨l, hl, rfl, h3⟩ := (tb_img _ _ _ _).1 h1
    rw [pgr_at h n (by omega) l hl, tb_img] at h2
    obtain ⟨j, hj, hji, h4⟩ := h2
    exact ⟨j, hj, hji, (tb_prod hq).2 ⟨l, hl, h3, h4⟩⟩
  · rintro ⟨j, hj, hji, h1⟩
    obtain ⟨l, hl, h3, h4⟩ := (tb_prod hq).1 h1
    exact ⟨f l, h.lt l hl, (tb_img _ _ _ _).2 ⟨l, hl, rfl, h3⟩, by rw [pgr_at h n (by omega) l hl, tb_img]; exact ⟨j, hj, hji, h4⟩⟩

/-- The inverse: what the loop over the first m elements has stored. -/
def invr (f : Nat → Nat) : Nat → Nat → Nat
  | 0, _ => 0
  | m + 1, i => if i = f m then m else invr f m i
theorem invr_at {n : Nat} {f : Nat → Nat} (h : Perm n f) : ∀ m, m ≤ n → ∀ q, q < m → invr f m (f q) = q
  | 0, _, q, hq => by omega
  | m + 1, hm, q, hq => by
    unfold invr
    by_cases e : q = m
    · subst e; rw [if_pos rfl]
    · rw [if_neg (fun e' => e (h.inj q m (by omega) (by omega) e'))]
      exact invr_at h m (by omega) q (by omega)
theorem perm_inv {n : Nat} {f : Nat → Nat} (h : Perm n f) (hn : n ≤ 5) : Perm n (invr f n) := by
  refine ⟨fun p hp => ?_, fun p q hp hq e => ?_⟩
  · obtain ⟨q, hq, rfl⟩ := h.surj hn hp
    rw [invr_at h n (by omega) q hq]; exact hq
  · obtain ⟨p', hp', rfl⟩ := h.surj hn hp
    obtain ⟨q', hq', rfl⟩ := h.surj hn hq
    rw [invr_at h n (by omega) p' hp', invr_at h n (by omega) q' hq'] at e
    rw [e]

theorem pgr_back {n : Nat} {f a : Nat → Nat} (h : Perm n f) (ha : WF n a) {p : Nat} (hp : p < 5) : pgr n (invr f n) (pgr n f a n) n p = a p := by
  have hi := perm_inv h ha.1.2
  refine wf_ext (wf_pgr hi (wf_pgr h ha)) ha (fun p hp i hin => ?_) hp
  have e : pgr n (invr f n) (pgr n f a n) n p = img (invr f n) (img f (a p) n) n := by
    have := pgr_at (k := pgr n f a n) hi n (by omega) (f p) (h.lt p hp)
    rw [invr_at h n (by omega) p hp, pgr_at h n (by omega) p hp] at this
    exact this
  rw [e, tb_img]
  constructor
  · rintro ⟨m, hm, h1, h2⟩
    obtain ⟨j, hj, rfl, h3⟩ := (tb_img _ _ _ _).1 h2
    rw [invr_at h n (by omega) j hj] at h1
    subst h1; exact h3
  · intro h1
    exact ⟨f i, h.lt i hin, invr_at h n (by omega) i hin, (tb_img _ _ _ _).2 ⟨i, hin, rfl, h1⟩⟩

/-- The kernel: what the loop over the first m rows has left. -/
def ker (n : Nat) (a : Nat → Nat) : Nat → Nat
  | 0 => 2 ^ n - 1
  | m + 1 => ker n a m &&& a m
theorem ker_lt (n : Nat) (a : Nat → Nat) : ∀ m, ker n a m < 2 ^ n
  | 0 => by have := Nat.pow_pos (n := n) (show 0 < 2 by omega); unfold ker; omega
  | m + 1 => by unfold ker; exact Nat.lt_of_le_of_lt Nat.and_le_left (ker_lt n a m)
theorem tb_ker {n : Nat} (a : Nat → Nat) {i : Nat} (hi : i < n) : ∀ m, (ker n a m).testBit i = true ↔ ∀ p, p < m → (a p).testBit i = true
  | 0 => by unfold ker; rw [Nat.testBit_two_pow_sub_one]; simp [hi]
  | m + 1 => by
    unfold ker
    rw [Nat.testBit_and, Bool.and_eq_true, tb_ker a hi m]
    constructor
    · rintro ⟨h1, h2⟩ p hp
      by_cases e : p = m
      · subst e; exact h2
      · exact h1 p (by omega)
    · intro h
      exact ⟨fun p hp => h p (by omega), h m (by omega)⟩

theorem ker_img {n : Nat} {f a : Nat → Nat} (h : Perm n f) (ha : WF n a) : img f (ker n a n) n = ker n (pgr n f a n) n := by
  refine tb_ext (img_lt _ n h.lt) (ker_lt _ _ _) (fun i hi => ?_)
  rw [tb_img, tb_ker _ hi]
  constructor
  · rintro ⟨m, hm, rfl, h1⟩ p hp
    obtain ⟨q, hq, rfl⟩ := h.surj ha.1.2 hp
    rw [pgr_at h n (by omega) q hq, tb_img]
    exact ⟨m, hm, rfl, (tb_ker a hm n).1 h1 q hq⟩
  · intro h1
    obtain ⟨m, hm, rfl⟩ := h.surj ha.1.2 hi
    refine ⟨m, hm, rfl, (tb_ker a hm n).2 (fun q hq => ?_)⟩
    have := h1 (f q) (h.lt q hq)
    rw [pgr_at h n (by omega) q hq, tb_img] at this
    obtain ⟨m', hm', e, h2⟩ := this
    rw [← h.inj m' m hm' hm e]
    exact h2

theorem prod_or_r {n : Nat} {a b c : Nat → Nat} (ha : WF n a) (hb : WF n b) (hc : WF n c) {p : Nat} (hp : p < 5) : prod n a (fun p => b p ||| c p) p = prod n a b p ||| prod n a c p := by
  refine wf_ext (wf_prod ha (wf_or' hb hc)) (wf_or' (wf_prod ha hb) (wf_prod ha hc)) (fun p hp i hi => ?_) hp
  rw [tb_prod hp, Nat.testBit_or, Bool.or_eq_true, tb_prod hp, tb_prod hp]
  constructor
  · rintro ⟨m, hm, h1, h2⟩
    rw [Nat.testBit_or, Bool.or_eq_true] at h1
    rcases h1 with h | h
    · exact .inl ⟨m, hm, h, h2⟩
    · exact .inr ⟨m, hm, h, h2⟩
  · rintro (⟨m, hm, h1, h2⟩ | ⟨m, hm, h1, h2⟩)
    · exact ⟨m, hm, by rw [Nat.testBit_or, h1]; rfl, h2⟩
    · exact ⟨m, hm, by rw [Nat.testBit_or, h1, Bool.or_true], h2⟩

theorem prod_sil_r {n : Nat} {a : Nat → Nat} (ha : WF n a) {p : Nat} (hp : p < 5) : prod n a (sil n) p = a p := by
  refine wf_ext (wf_prod ha (wf_sil ha.1)) ha (fun p hp i hi => ?_) hp
  rw [tb_prod hp]
  constructor
  · rintro ⟨m, hm, h1, h2⟩
    unfold sil at h1
    rw [if_pos hp, Nat.testBit_two_pow] at h1
    simp at h1
    subst h1
    exact h2
  · intro h
    exact ⟨p, hp, by unfold sil; rw [if_pos hp, Nat.testBit_two_pow]; simp, h⟩

end Go.Proofs.YtacnhklhimogkaaDoor
