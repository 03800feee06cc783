/- Roots and nonsplit products of graphs, in plain numbers. -/
import Derived.Test.YtlkhbfaoebgmkaaDoorPmM
namespace Go.Proofs.YtlkhbfaoebgmkaaDoor
set_option linter.unusedVariables false
set_option linter.unusedSimpArgs false
open Go.RowKit

/-- How many of the first n bits are set. -/
def cnt (x : Nat) : Nat → Nat
  | 0 => 0
  | n + 1 => cnt x n + (if x.testBit n = true then 1 else 0)

theorem cnt_le {x y : Nat} : ∀ n, (∀ i, i < n → x.testBit i = true → y.testBit i = true) → cnt x n ≤ cnt y n
  | 0, _ => Nat.le_refl _
  | n + 1, h => by
    have h1 := cnt_le n (fun i hi => h i (by omega))
    have h2 := h n (by omega)
    unfold cnt
    by_cases hx : x.testBit n = true
    · rw [if_pos hx, if_pos (h2 hx)]; omega
    · rw [if_neg hx]; omega
theorem cnt_lt {x y : Nat} : ∀ n, (∀ i, i < n → x.testBit i = true → y.testBit i = true) → (∃ i, i < n ∧ y.testBit i = true ∧ ¬ x.testBit i = true) → cnt x n < cnt y n
  | 0, _, ⟨i, hi, _⟩ => by omega
  | n + 1, h, ⟨i, hi, hy, hx⟩ => by
    unfold cnt
    by_cases hin : i = n
    · subst hin
      have h1 := cnt_le i (fun j hj => h j (by omega))
      rw [if_pos hy, if_neg hx]; omega
    · have h1 := cnt_lt n (fun j hj => h j (by omega)) ⟨i, by omega, hy, hx⟩
      by_cases hxn : x.testBit n = true
      · rw [if_pos hxn, if_pos (h n (by omega) hxn)]; omega
      · rw [if_neg hxn]; omega
theorem cnt_max (x : Nat) : ∀ n, cnt x n ≤ n
  | 0 => Nat.le_refl _
  | n + 1 => by have := cnt_max x n; unfold cnt; split <;> omega
theorem cnt_disj {x y : Nat} : ∀ n, (∀ i, i < n → ¬ (x.testBit i = true ∧ y.testBit i = true)) → cnt x n + cnt y n ≤ n
  | 0, _ => Nat.le_refl _
  | n + 1, h => by
    have h1 := cnt_disj n (fun i hi => h i (by omega))
    have h2 := h n (by omega)
    unfold cnt
    by_cases hx : x.testBit n = true
    · rw [if_pos hx, if_neg (fun hy => h2 ⟨hx, hy⟩)]; omega
    · rw [if_neg hx]; split <;> omega
theorem cnt_pos {x i : Nat} : ∀ n, i < n → x.testBit i = true → 1 ≤ cnt x n
  | 0, h, _ => by omega
  | n + 1, h, hx => by
    unfold cnt
    by_cases hin : i = n
    · subst hin; rw [if_pos hx]; omega
    · have := cnt_pos n (by omega) hx; omega
theorem cnt_some {x : Nat} : ∀ n, 1 ≤ cnt x n → ∃ i, i < n ∧ x.testBit i = true
  | 0, h => absurd h (by simp [cnt])
  | n + 1, h => by
    unfold cnt at h
    by_cases hx : x.testBit n = true
    · exact ⟨n, by omega, hx⟩
    · rw [if_neg hx] at h
      obtain ⟨i, hi, hb⟩ := cnt_some n (by omega)
      exact ⟨i, by omega, hb⟩

theorem prow_sub {n : Nat} {g : Nat → Nat} (hg : WF n g) {x i : Nat} (hi : i < n) (hx : x.testBit i = true) : (prow g x n).testBit i = true :=
  (tb_prow g x i n).2 ⟨i, hi, hx, (tb_iff _ _).1 (hg.2.1 i hi).2⟩
theorem prow_in_lt {n : Nat} {g : Nat → Nat} (hg : WF n g) (x : Nat) : prow g x n < 2 ^ n := prow_lt n (fun p hp => (hg.2.1 p hp).1)

/-- A set is closed under a graph, or the graph adds to it. -/
theorem grow {n : Nat} {g : Nat → Nat} (hg : WF n g) {x : Nat} (hx : x < 2 ^ n) : prow g x n = x ∨ cnt x n < cnt (prow g x n) n := by
  by_cases h : ∃ i, i < n ∧ (prow g x n).testBit i = true ∧ ¬ x.testBit i = true
  · exact .inr (cnt_lt n (fun i hi hb => prow_sub hg hi hb) h)
  · refine .inl (tb_ext (prow_in_lt hg x) hx (fun i hi => ⟨fun hb => ?_, fun hb => prow_sub hg hi hb⟩))
    by_cases hxi : x.testBit i = true
    · exact hxi
    · exact absurd ⟨i, hi, hb, hxi⟩ h
theorem cnt_grow {n : Nat} {g : Nat → Nat} (hg : WF n g) (x : Nat) : cnt x n ≤ cnt (prow g x n) n := cnt_le n (fun i hi hb => prow_sub hg hi hb)

theorem prow_prod {n : Nat} {a g : Nat → Nat} (ha : WF n a) (hg : WF n g) (x : Nat) : prow (prod n a g) x n = prow a (prow g x n) n := by
  refine tb_ext (prow_in_lt (wf_prod ha hg) x) (prow_in_lt ha _) (fun i hi => ?_)
  rw [tb_prow, tb_prow]
  constructor
  · rintro ⟨m, hm, hx, hb⟩
    obtain ⟨l, hl, h1, h2⟩ := (tb_prod hm).1 hb
    exact ⟨l, hl, (tb_prow g x l n).2 ⟨m, hm, hx, h1⟩, h2⟩
  · rintro ⟨l, hl, h1, h2⟩
    obtain ⟨m, hm, hx, h3⟩ := (tb_prow g x l n).1 h1
    exact ⟨m, hm, hx, (tb_prod hm).2 ⟨l, hl, h3, h2⟩⟩
theorem tb_sil {n p i : Nat} (hp : p < n) : (sil n p).testBit i = true ↔ i = p := by
  unfold sil
  rw [if_pos hp, Nat.testBit_two_pow]
  simp [eq_comm]
theorem prow_silent {n : Nat} (hn : 1 ≤ n ∧ n ≤ 5) {x : Nat} (hx : x < 2 ^ n) : prow (sil n) x n = x := by
  refine tb_ext (prow_in_lt (wf_sil hn) x) hx (fun i hi => ?_)
  rw [tb_prow]
  constructor
  · rintro ⟨m, hm, h1, h2⟩
    rw [(tb_sil hm).1 h2]; exact h1
  · intro h
    exact ⟨i, hi, h, (tb_sil hi).2 rfl⟩
theorem prow_one {n : Nat} {a : Nat → Nat} (ha : WF n a) {p : Nat} (hp : p < n) : prow a (2 ^ p) n = a p := by
  refine tb_ext (prow_in_lt ha _) (ha.2.1 p hp).1 (fun i hi => ?_)
  rw [tb_prow]
  constructor
  · rintro ⟨m, hm, h1, h2⟩
    rw [Nat.testBit_two_pow] at h1
    have : p = m := of_decide_eq_true h1
    subst this; exact h2
  · intro h
    exact ⟨p, hp, by rw [Nat.testBit_two_pow]; simp, h⟩
theorem prow_congr {a b : Nat → Nat} (y : Nat) : ∀ n, (∀ m, m < n → a m = b m) → prow a y n = prow b y n
  | 0, _ => rfl
  | n + 1, h => by
    unfold prow
    rw [prow_congr y n (fun m hm => h m (by omega)), h n (by omega)]
theorem prod_congr {n : Nat} {a b c d : Nat → Nat} (h : ∀ p, p < 5 → a p = b p) (h2 : ∀ p, p < 5 → c p = d p) (hn : n ≤ 5) {p : Nat} (hp : p < 5) : prod n a c p = prod n b d p := by
  unfold prod
  by_cases hpn : p < n
  · rw [if_pos hpn, if_pos hpn, h2 p hp, prow_congr _ n (fun m hm => h m (by omega))]
  · rw [if_neg hpn, if_neg hpn]

/-- A product of the first k graphs of a sequence. -/
def prods (n : Nat) (L : Nat → Nat → Nat) : Nat → Nat → Nat
  | 0 => sil n
  | k + 1 => prod n (prods n L k) (L k)
theorem wf_prods {n : Nat} (hn : 1 ≤ n ∧ n ≤ 5) {L : Nat → Nat → Nat} : ∀ k, (∀ i, i < k → WF n (L i)) → WF n (prods n L k)
  | 0, _ => wf_sil hn
  | k + 1, h => wf_prod (wf_prods hn k (fun i hi => h i (by omega))) (h k (by omega))

theorem prows {n : Nat} (hn : 1 ≤ n ∧ n ≤ 5) {L : Nat → Nat → Nat} {k : Nat} (h : ∀ i, i < k + 1 → WF n (L i)) (x : Nat) : prow (prods n L (k + 1)) x n = prow (prods n L k) (prow (L k) x n) n :=
  prow_prod (wf_prods hn k (fun i hi => h i (by omega))) (h k (by omega)) x

/-- Powers no longer grow behind n - 1 factors. -/
theorem stable {n : Nat} {g : Nat → Nat} (hg : WF n g) : ∀ k x, x < 2 ^ n → n ≤ cnt x n + k → prow (prods n (fun _ => g) (k + 1)) x n = prow (prods n (fun _ => g) k) x n
  | 0, x, hx, h => by
    rw [prows hg.1 (fun _ _ => hg)]
    rcases grow hg hx with e | e
    · rw [e]
    · have := cnt_max (prow g x n) n; omega
  | k + 1, x, hx, h => by
    have e1 := prows hg.1 (L := fun _ => g) (k := k + 1) (fun _ _ => hg) x
    have e2 := prows hg.1 (L := fun _ => g) (k := k) (fun _ _ => hg) x
    rcases grow hg hx with e | e
    · rw [e1, e]
    · exact e1.trans ((stable hg k (prow g x n) (prow_in_lt hg x) (by omega)).trans e2.symm)

theorem power_stable {n : Nat} {g : Nat → Nat} (hg : WF n g) {p : Nat} (hp : p < n) : prods n (fun _ => g) (n + 1) p = prods n (fun _ => g) (n - 1) p := by
  have h1 := hg.1
  have hx : 2 ^ p < 2 ^ n := Nat.pow_lt_pow_right (by omega) hp
  have hc : 1 ≤ cnt (2 ^ p) n := cnt_pos n hp (by rw [Nat.testBit_two_pow]; simp)
  have e1 := stable hg n (2 ^ p) hx (by omega)
  have e2 := stable hg (n - 1) (2 ^ p) hx (by omega)
  have e3 : n - 1 + 1 = n := by omega
  rw [e3] at e2
  have w : ∀ k, WF n (prods n (fun _ => g) k) := fun k => wf_prods h1 k (fun _ _ => hg)
  rw [← prow_one (w _) hp, ← prow_one (w (n - 1)) hp, e1, e2]

/-- What a loop has that multiplies a graph by itself. -/
def rt (n : Nat) (g : Nat → Nat) : Nat → Nat → Nat
  | 0 => g
  | k + 1 => prod n (rt n g k) g
theorem wf_rt {n : Nat} {g : Nat → Nat} (hg : WF n g) : ∀ k, WF n (rt n g k)
  | 0 => hg
  | k + 1 => wf_prod (wf_rt hg k) hg
theorem rt_prods {n : Nat} {g : Nat → Nat} (hg : WF n g) : ∀ k p, p < 5 → rt n g k p = prods n (fun _ => g) (k + 1) p
  | 0, p, hp => (prod_sil hg hp).symm
  | k + 1, p, hp => prod_congr (rt_prods hg k) (fun _ _ => rfl) hg.1.2 hp

theorem ker_congr {n : Nat} {a b : Nat → Nat} : ∀ m, (∀ p, p < m → a p = b p) → ker n a m = ker n b m
  | 0, _ => rfl
  | m + 1, h => by
    unfold ker
    rw [ker_congr m (fun p hp => h p (by omega)), h m (by omega)]

/-- The roots are the kernel of the power of n - 1 factors. -/
theorem roots_kernel {n : Nat} {g : Nat → Nat} (hg : WF n g) : ker n (rt n g n) n = ker n (prods n (fun _ => g) (n - 1)) n :=
  ker_congr n (fun p hp => (rt_prods hg n p (by have := hg.1; omega)).trans (power_stable hg hp))

theorem root_in {n : Nat} {g : Nat → Nat} (hg : WF n g) {x : Nat} (hc : prow g x n = x) {i : Nat} (hi : i < n) : ∀ k p, p < n → x.testBit p = true → (rt n g k p).testBit i = true → x.testBit i = true
  | 0, p, hp, hx, hb => by rw [← hc]; exact (tb_prow g x i n).2 ⟨p, hp, hx, hb⟩
  | k + 1, p, hp, hx, hb => by
    obtain ⟨m, hm, h1, h2⟩ := (tb_prod hp).1 hb
    exact root_in hg hc hi k m hm (by rw [← hc]; exact (tb_prow g x m n).2 ⟨p, hp, hx, h1⟩) h2

theorem ker_some {n : Nat} {a : Nat → Nat} (h : ker n a n ≠ 0) : ∃ r, r < n ∧ ∀ p, p < n → (a p).testBit r = true := by
  by_cases hs : ∃ r, r < n ∧ (ker n a n).testBit r = true
  · obtain ⟨r, hr, hb⟩ := hs
    exact ⟨r, hr, (tb_ker a hr n).1 hb⟩
  · refine absurd (tb_ext (ker_lt n a n) (Nat.pow_pos (by omega)) (fun i hi => ⟨fun hb => absurd ⟨i, hi, hb⟩ hs, fun hb => by simp at hb⟩)) h

/-- In a product of as many graphs with roots as are asked for, two sets hear of a common process. -/
theorem meets {n : Nat} (hn : 1 ≤ n ∧ n ≤ 5) {L : Nat → Nat → Nat} : ∀ m, (∀ i, i < m → WF n (L i) ∧ ker n (rt n (L i) n) n ≠ 0) → ∀ x y, x < 2 ^ n → y < 2 ^ n → 1 ≤ cnt x n → 1 ≤ cnt y n → n < cnt x n + cnt y n + m →
    ∃ i, i < n ∧ (prow (prods n L m) x n).testBit i = true ∧ (prow (prods n L m) y n).testBit i = true
  | 0, _, x, y, hx, hy, cx, cy, h => by
    show ∃ i, i < n ∧ (prow (sil n) x n).testBit i = true ∧ (prow (sil n) y n).testBit i = true
    rw [prow_silent hn hx, prow_silent hn hy]
    by_cases hs : ∃ i, i < n ∧ x.testBit i = true ∧ y.testBit i = true
    · exact hs
    · have := cnt_disj (x := x) (y := y) n (fun i hi hb => hs ⟨i, hi, hb⟩); omega
  | m + 1, hL, x, y, hx, hy, cx, cy, h => by
    have hw : ∀ i, i < m + 1 → WF n (L i) := fun i hi => (hL i hi).1
    have hg := hw m (by omega)
    rcases grow hg hx with ex | ex
    · rcases grow hg hy with ey | ey
      · obtain ⟨r, hr, hk⟩ := ker_some (hL m (by omega)).2
        obtain ⟨p, hp, hpx⟩ := cnt_some n cx
        obtain ⟨q, hq, hqy⟩ := cnt_some n cy
        have rx := root_in hg ex hr n p hp hpx (hk p hp)
        have ry := root_in hg ey hr n q hq hqy (hk q hq)
        have wP := wf_prods hn (m + 1) hw
        exact ⟨r, hr, prow_sub wP hr rx, prow_sub wP hr ry⟩
      · rw [prows hn hw, prows hn hw]
        exact meets hn m (fun i hi => hL i (by omega)) _ _ (prow_in_lt hg x) (prow_in_lt hg y) (by rw [ex]; exact cx) (by omega) (by rw [ex]; omega)
    · rw [prows hn hw, prows hn hw]
      have := cnt_grow hg y
      exact meets hn m (fun i hi => hL i (by omega)) _ _ (prow_in_lt hg x) (prow_in_lt hg y) (by omega) (by omega) (by omega)

/-- The product of n - 1 graphs that have roots is nonsplit. -/
theorem nonsplit {n : Nat} (hn : 1 ≤ n ∧ n ≤ 5) {L : Nat → Nat → Nat} (hL : ∀ i, i < n - 1 → WF n (L i) ∧ ker n (rt n (L i) n) n ≠ 0) {p q : Nat} (hp : p < n) (hq : q < n) :
    prods n L (n - 1) p &&& prods n L (n - 1) q ≠ 0 := by
  have w := wf_prods hn (n - 1) (fun i hi => (hL i hi).1)
  have hx : 2 ^ p < 2 ^ n := Nat.pow_lt_pow_right (by omega) hp
  have hy : 2 ^ q < 2 ^ n := Nat.pow_lt_pow_right (by omega) hq
  have cp : 1 ≤ cnt (2 ^ p) n := cnt_pos n hp (by rw [Nat.testBit_two_pow]; simp)
  have cq : 1 ≤ cnt (2 ^ q) n := cnt_pos n hq (by rw [Nat.testBit_two_pow]; simp)
  obtain ⟨i, hi, h1, h2⟩ := meets hn (n - 1) hL _ _ hx hy cp cq (by omega)
  rw [prow_one w hp] at h1
  rw [prow_one w hq] at h2
  intro e
  have : (prods n L (n - 1) p &&& prods n L (n - 1) q).testBit i = true := by rw [Nat.testBit_and, h1, h2]; rfl
  rw [e] at this
  simp at this
end Go.Proofs.YtlkhbfaoebgmkaaDoor
