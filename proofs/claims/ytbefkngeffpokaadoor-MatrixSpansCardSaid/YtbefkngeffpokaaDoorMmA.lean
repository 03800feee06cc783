/- Vectors over the field of two elements as numbers: spans, echelon forms, ascending lists, the two ways to an echelon form, products, solutions, kernels, dimensions. -/
namespace Go.Proofs.YtbefkngeffpokaaDoor
set_option linter.unusedVariables false
set_option linter.unusedSimpArgs false

/-! ### sums -/
theorem xor_self' (a : Nat) : a ^^^ a = 0 := Nat.xor_self a
theorem xor_cancel (a b : Nat) : a ^^^ b ^^^ b = a := by rw [Nat.xor_assoc, Nat.xor_self, Nat.xor_zero]
theorem xor_eq_zero' {a b : Nat} (h : a ^^^ b = 0) : a = b := by
  have := congrArg (· ^^^ b) h
  simp only [xor_cancel, Nat.zero_xor] at this
  exact this
/-- The sums of rows. -/
inductive Sp (R : List Nat) : Nat → Prop
  | zero : Sp R 0
  | add (v r : Nat) : Sp R v → r ∈ R → Sp R (v ^^^ r)
theorem Sp.row {R : List Nat} {r : Nat} (h : r ∈ R) : Sp R r := by
  have := Sp.add 0 r .zero h
  rwa [Nat.zero_xor] at this
theorem Sp.sum {R : List Nat} {u v : Nat} (hu : Sp R u) (hv : Sp R v) : Sp R (u ^^^ v) := by
  induction hv with
  | zero => rwa [Nat.xor_zero]
  | add v r _ hr ih => rw [← Nat.xor_assoc]; exact .add _ r ih hr
theorem Sp.mono {R T : List Nat} (h : ∀ r, r ∈ R → Sp T r) {v : Nat} (hv : Sp R v) : Sp T v := by
  induction hv with
  | zero => exact .zero
  | add v r _ hr ih => exact ih.sum (h r hr)
/-- Two lists of rows have the same sums. -/
def Eqs (R T : List Nat) : Prop := (∀ r, r ∈ R → Sp T r) ∧ (∀ r, r ∈ T → Sp R r)
theorem Eqs.refl (R : List Nat) : Eqs R R := ⟨fun _ h => .row h, fun _ h => .row h⟩
theorem Eqs.symm {R T : List Nat} (h : Eqs R T) : Eqs T R := ⟨h.2, h.1⟩
theorem Eqs.trans {R T U : List Nat} (h : Eqs R T) (k : Eqs T U) : Eqs R U := ⟨fun r hr => (h.1 r hr).mono k.1, fun r hr => (k.2 r hr).mono h.2⟩
theorem Eqs.sp {R T : List Nat} (h : Eqs R T) {v : Nat} : Sp R v ↔ Sp T v := ⟨fun hv => hv.mono h.1, fun hv => hv.mono h.2⟩

/-! ### the first position -/
/-- p is the first position of v. -/
structure Ld (v p : Nat) : Prop where
  at_ : v.testBit p = true
  low : ∀ q, q < p → v.testBit q = false
theorem ld_of {v : Nat} (h : v ≠ 0) : ∃ p, Ld v p := by
  have key : ∀ m, (∃ q, q < m ∧ v.testBit q = true) → ∃ p, Ld v p := by
    intro m
    induction m with
    | zero => rintro ⟨q, hq, _⟩; omega
    | succ m ih =>
      rintro ⟨q, hq, hb⟩
      by_cases h2 : ∃ q, q < m ∧ v.testBit q = true
      · exact ih h2
      · refine ⟨q, hb, fun r hr => ?_⟩
        cases hv : v.testBit r with
        | false => rfl
        | true => exact absurd ⟨r, by omega, hv⟩ h2
  obtain ⟨q, hq⟩ := Nat.exists_testBit_of_ne_zero h
  exact key (q + 1) ⟨q, by omega, hq⟩
theorem Ld.uniq {v p q : Nat} (h : Ld v p) (k : Ld v q) : p = q := by
  rcases Nat.lt_trichotomy p q with hl | hl | hl
  · have := k.low p hl; rw [h.at_] at this; cases this
  · exact hl
  · have := h.low q hl; rw [k.at_] at this; cases this
theorem Ld.ne {v p : Nat} (h : Ld v p) : v ≠ 0 := fun e => by have := h.at_; rw [e, Nat.zero_testBit] at this; cases this

/-! ### echelon forms -/
/-- Rows with their first positions, which ascend; no one occurs in another row. -/
structure Ech (R : List Nat) (ps : List Nat) : Prop where
  len : ps.length = R.length
  ld : ∀ i (h : i < R.length), Ld R[i] (ps[i]'(by omega))
  asc : ps.Pairwise (· < ·)
  red : ∀ i j (hi : i < R.length) (hj : j < R.length), i ≠ j → (R[j]).testBit (ps[i]'(by omega)) = false
/-- The sum of the rows whose first positions are in v. -/
def cmb : List Nat → List Nat → Nat → Nat
  | r :: R, p :: ps, v => (if v.testBit p then r else 0) ^^^ cmb R ps v
  | _, _, _ => 0
theorem cmb_zero : ∀ (R ps : List Nat), cmb R ps 0 = 0
  | [], _ => by unfold cmb; rfl
  | _ :: _, [] => by unfold cmb; rfl
  | r :: R, p :: ps => by
    unfold cmb
    rw [Nat.zero_testBit, if_neg (by simp), cmb_zero R ps, Nat.xor_zero]
theorem cmb_add : ∀ (R ps : List Nat) (u v : Nat), cmb R ps (u ^^^ v) = cmb R ps u ^^^ cmb R ps v
  | [], _, _, _ => by unfold cmb; rfl
  | _ :: _, [], _, _ => by unfold cmb; rfl
  | r :: R, p :: ps, u, v => by
    unfold cmb
    rw [cmb_add R ps u v, Nat.testBit_xor]
    have e : ∀ a b c d : Nat, (a ^^^ b) ^^^ (c ^^^ d) = (a ^^^ c) ^^^ (b ^^^ d) := fun a b c d => by
      rw [Nat.xor_assoc, Nat.xor_assoc, ← Nat.xor_assoc b c d, Nat.xor_comm b c, Nat.xor_assoc c b d]
    rw [e]
    congr 1
    cases u.testBit p <;> cases v.testBit p <;> simp
theorem cmb_none : ∀ (R ps : List Nat) (v : Nat), (∀ p, p ∈ ps → v.testBit p = false) → cmb R ps v = 0
  | [], _, _, _ => by unfold cmb; rfl
  | _ :: _, [], _, _ => by unfold cmb; rfl
  | r :: R, p :: ps, v, h => by
    unfold cmb
    rw [h p List.mem_cons_self, if_neg (by simp), cmb_none R ps v fun q hq => h q (List.mem_cons_of_mem _ hq), Nat.xor_zero]
theorem cmb_bit : ∀ (R ps : List Nat) (v q : Nat), (cmb R ps v).testBit q = true → ∃ i, ∃ (h : i < R.length), ∃ (h' : i < ps.length), v.testBit ps[i] = true ∧ R[i].testBit q = true
  | [], _, _, _, h => by unfold cmb at h; rw [Nat.zero_testBit] at h; cases h
  | _ :: _, [], _, _, h => by unfold cmb at h; rw [Nat.zero_testBit] at h; cases h
  | r :: R, p :: ps, v, q, h => by
    unfold cmb at h
    rw [Nat.testBit_xor] at h
    by_cases h1 : v.testBit p = true ∧ r.testBit q = true
    · exact ⟨0, by simp, by simp, h1⟩
    · have h2 : (if v.testBit p then r else 0).testBit q = false := by
        by_cases hv : v.testBit p = true
        · rw [if_pos hv]
          cases hr : r.testBit q with
          | false => rfl
          | true => exact absurd ⟨hv, hr⟩ h1
        · rw [if_neg hv, Nat.zero_testBit]
      rw [h2, Bool.false_xor] at h
      obtain ⟨i, hi, hi', hb⟩ := cmb_bit R ps v q h
      exact ⟨i + 1, by simp; omega, by simp; omega, by simpa using hb⟩
/-- Only the row k has its first position: the sum is this row. -/
theorem cmb_one : ∀ (R ps : List Nat) (v k : Nat) (hk : k < R.length) (hl : ps.length = R.length), (∀ i (h : i < R.length), v.testBit (ps[i]'(by omega)) = decide (i = k)) → cmb R ps v = R[k]
  | [], _, _, _, hk, _, _ => by simp at hk
  | _ :: _, [], _, _, _, hl, _ => by simp at hl
  | r :: R, p :: ps, v, k, hk, hl, h => by
    unfold cmb
    have h0 := h 0 (by simp)
    simp only [List.getElem_cons_zero] at h0
    have hl2 : ps.length = R.length := by simpa using hl
    cases k with
    | zero =>
      rw [h0, if_pos (by simp), cmb_none R ps v, Nat.xor_zero]
      · rfl
      · intro q hq
        obtain ⟨i, hi, rfl⟩ := List.mem_iff_getElem.1 hq
        have := h (i + 1) (by simp; omega)
        simpa using this
    | succ k =>
      have h1 : v.testBit p = false := by rw [h0]; simp
      rw [h1, if_neg (by simp), Nat.zero_xor]
      have := cmb_one R ps v k (by simpa using hk) hl2 fun i hi => by
        have := h (i + 1) (by simp; omega)
        simpa using this
      rw [this]
      rfl
theorem Ech.row {R ps : List Nat} (h : Ech R ps) {k : Nat} (hk : k < R.length) : cmb R ps R[k] = R[k] :=
  cmb_one R ps R[k] k hk h.len fun i hi => by
    by_cases e : i = k
    · subst e
      rw [(h.ld i hi).at_]
      simp
    · rw [h.red i k hi hk e]
      simp [e]
theorem Ech.sum {R ps : List Nat} (h : Ech R ps) {v : Nat} (hv : Sp R v) : cmb R ps v = v := by
  induction hv with
  | zero => exact cmb_zero R ps
  | add v r _ hr ih =>
    obtain ⟨k, hk, rfl⟩ := List.mem_iff_getElem.1 hr
    rw [cmb_add, ih, h.row hk]
/-- A sum of rows without first positions of rows is nothing. -/
theorem Ech.nothing {R ps : List Nat} (h : Ech R ps) {v : Nat} (hv : Sp R v) (h0 : ∀ p, p ∈ ps → v.testBit p = false) : v = 0 := by
  rw [← h.sum hv]
  exact cmb_none R ps v h0
/-- The first position of a sum of rows is one of a row. -/
theorem Ech.lead {R ps : List Nat} (h : Ech R ps) {v p : Nat} (hv : Sp R v) (hp : Ld v p) : p ∈ ps := by
  have hb := hp.at_
  rw [← h.sum hv] at hb
  obtain ⟨i, hi, hi', h1, h2⟩ := cmb_bit R ps v p hb
  have l := h.ld i hi
  have e : ps[i] = p := by
    rcases Nat.lt_trichotomy ps[i] p with hl | hl | hl
    · have := hp.low _ hl; rw [h1] at this; cases this
    · exact hl
    · have := l.low _ hl; rw [h2] at this; cases this
  rw [← e]
  exact List.getElem_mem _
theorem Ech.sub {R ps T qs : List Nat} (h : Ech R ps) (k : Ech T qs) (he : Eqs R T) {r : Nat} (hr : r ∈ R) : r ∈ T := by
  obtain ⟨i, hi, rfl⟩ := List.mem_iff_getElem.1 hr
  have l := h.ld i hi
  have hq := k.lead (he.1 _ hr) l
  obtain ⟨j, hj, ej⟩ := List.mem_iff_getElem.1 hq
  have hjT : j < T.length := by rw [← k.len]; exact hj
  have l2 := k.ld j hjT
  have hs : Sp R (R[i] ^^^ T[j]) := (Sp.row hr).sum (he.2 _ (List.getElem_mem hjT))
  have hz := h.nothing hs fun p hp => by
    obtain ⟨c, hc, ec⟩ := List.mem_iff_getElem.1 hp
    have hcR : c < R.length := by rw [← h.len]; exact hc
    rw [Nat.testBit_xor]
    by_cases e : c = i
    · subst e
      rw [← ec, l.at_]
      have := l2.at_
      rw [ej] at this
      rw [this]; rfl
    · have h1 := h.red c i hcR hi e
      rw [ec] at h1
      rw [h1, Bool.false_xor]
      have lc := h.ld c hcR
      have hqc := k.lead (he.1 _ (List.getElem_mem hcR)) lc
      obtain ⟨d, hd, ed⟩ := List.mem_iff_getElem.1 hqc
      have hdT : d < T.length := by rw [← k.len]; exact hd
      have hdj : d ≠ j := fun e2 => by
        subst e2
        have e3 : ps[c] = ps[i]'(by rw [h.len]; exact hi) := ed.symm.trans ej
        have hp2 := List.pairwise_iff_getElem.1 h.asc
        rcases Nat.lt_trichotomy c i with hl | hl | hl
        · have := hp2 c i hc (by rw [h.len]; exact hi) hl; omega
        · exact e hl
        · have := hp2 i c (by rw [h.len]; exact hi) hc hl; omega
      have h2 := k.red d j hdT hjT hdj
      rw [ed, ec] at h2
      exact h2
  have e := xor_eq_zero' hz
  rw [e]
  exact List.getElem_mem hjT
/-- An echelon form is the only one with its sums. -/
theorem Ech.uniq {R ps T qs : List Nat} (h : Ech R ps) (k : Ech T qs) (he : Eqs R T) : R = T := by
  have asc : ∀ {R ps : List Nat}, Ech R ps → R.Pairwise fun a b => ∃ p q, Ld a p ∧ Ld b q ∧ p < q := fun {R ps} h => by
    rw [List.pairwise_iff_getElem]
    intro i j hi hj hij
    exact ⟨_, _, h.ld i hi, h.ld j hj, List.pairwise_iff_getElem.1 h.asc i j (by rw [h.len]; exact hi) (by rw [h.len]; exact hj) hij⟩
  have nd : ∀ {R ps : List Nat}, Ech R ps → R.Nodup := fun {R ps} h => (asc h).imp fun ⟨p, q, h1, h2, h3⟩ e => by
    subst e
    have := h1.uniq h2
    omega
  have hp : R.Perm T := (List.perm_ext_iff_of_nodup (nd h) (nd k)).2 fun a => ⟨fun ha => h.sub k he ha, fun ha => k.sub h he.symm ha⟩
  refine hp.eq_of_pairwise (fun a b _ _ h1 h2 => ?_) (asc h) (asc k)
  obtain ⟨p, q, a1, b1, l1⟩ := h1
  obtain ⟨q', p', b2, a2, l2⟩ := h2
  have e1 := a1.uniq a2
  have e2 := b1.uniq b2
  omega
end Go.Proofs.YtbefkngeffpokaaDoor
namespace Go.Proofs.YtbefkngeffpokaaDoor
set_option linter.unusedVariables false
set_option linter.unusedSimpArgs false

/-- The positions of x below N. -/
def el (N x : Nat) : List Nat := (List.range N).filter fun i => x.testBit i
theorem el_mem {N x i : Nat} : i ∈ el N x ↔ i < N ∧ x.testBit i = true := by
  unfold el
  rw [List.mem_filter, List.mem_range]
theorem el_asc (N x : Nat) : (el N x).Pairwise (· < ·) := List.pairwise_lt_range.filter _
theorem el_len (N x : Nat) : (el N x).length ≤ N := by
  unfold el
  exact Nat.le_trans (List.length_filter_le _ _) (by simp)
theorem asc_nodup {l : List Nat} (h : l.Pairwise (· < ·)) : l.Nodup := h.imp fun h e => by omega
theorem asc_ext {l m : List Nat} (h : l.Pairwise (· < ·)) (k : m.Pairwise (· < ·)) (e : ∀ i, i ∈ l ↔ i ∈ m) : l = m := by
  have hp : l.Perm m := (List.perm_ext_iff_of_nodup (asc_nodup h) (asc_nodup k)).2 e
  exact hp.eq_of_pairwise (fun a b _ _ h1 h2 => by omega) h k
/-- x with the positions of a list changed. -/
def flips (x : Nat) (l : List Nat) : Nat := l.foldl (fun y i => y ^^^ 2 ^ i) x
def msk (l : List Nat) : Nat := flips 0 l
theorem flips_cons (x i : Nat) (l : List Nat) : flips x (i :: l) = flips (x ^^^ 2 ^ i) l := rfl
theorem flips_snoc (x i : Nat) (l : List Nat) : flips x (l ++ [i]) = flips x l ^^^ 2 ^ i := by unfold flips; rw [List.foldl_append]; rfl
theorem flips_eq : ∀ (l : List Nat) (x : Nat), flips x l = x ^^^ msk l
  | [], x => by unfold msk flips; simp
  | i :: l, x => by
    unfold msk
    rw [flips_cons, flips_cons, flips_eq l, flips_eq l (0 ^^^ 2 ^ i), Nat.zero_xor, Nat.xor_assoc]
theorem flips_bit : ∀ (l : List Nat) (x q : Nat), l.Nodup → (flips x l).testBit q = (x.testBit q ^^ decide (q ∈ l))
  | [], x, q, _ => by simp [flips]
  | i :: l, x, q, h => by
    have hn := List.nodup_cons.1 h
    rw [flips_cons, flips_bit l _ q hn.2, Nat.testBit_xor, Nat.testBit_two_pow]
    by_cases e : q = i
    · subst e
      simp [hn.1]
    · have e2 : ¬ i = q := fun h => e h.symm
      simp [e, e2]
theorem msk_bit {l : List Nat} (h : l.Nodup) (q : Nat) : (msk l).testBit q = decide (q ∈ l) := by
  unfold msk
  rw [flips_bit l 0 q h]
  simp
theorem msk_lt {l : List Nat} {N : Nat} (h : l.Nodup) (hl : ∀ i, i ∈ l → i < N) : msk l < 2 ^ N := by
  apply Nat.lt_pow_two_of_testBit
  intro q hq
  rw [msk_bit h]
  exact decide_eq_false fun hm => by have := hl q hm; omega
theorem el_msk {l : List Nat} {N : Nat} (h : l.Pairwise (· < ·)) (hl : ∀ i, i ∈ l → i < N) : el N (msk l) = l := by
  refine asc_ext (el_asc _ _) h fun i => ?_
  rw [el_mem, msk_bit (asc_nodup h), decide_eq_true_iff]
  exact ⟨fun h => h.2, fun h => ⟨hl i h, h⟩⟩
theorem msk_el {x N : Nat} (h : x < 2 ^ N) : msk (el N x) = x := by
  apply Nat.eq_of_testBit_eq
  intro q
  rw [msk_bit (asc_nodup (el_asc _ _)), Bool.eq_iff_iff, decide_eq_true_iff, el_mem]
  refine ⟨fun h => h.2, fun hq => ⟨?_, hq⟩⟩
  by_cases hl : q < N
  · exact hl
  · have := Nat.testBit_lt_two_pow (Nat.lt_of_lt_of_le h (Nat.pow_le_pow_right (by omega) (show N ≤ q by omega)))
    rw [hq] at this; cases this
theorem el_inj {x y N : Nat} (hx : x < 2 ^ N) (hy : y < 2 ^ N) (h : el N x = el N y) : x = y := by rw [← msk_el hx, ← msk_el hy, h]
theorem el_zero (N : Nat) : el N 0 = [] := by simp [el]
theorem el_nil {x N : Nat} (hx : x < 2 ^ N) : el N x = [] ↔ x = 0 := ⟨fun h => el_inj hx (Nat.two_pow_pos N) (by rw [h, el_zero]), fun h => by rw [h, el_zero]⟩
/-- The positions among the first k. -/
theorem el_succ (k x : Nat) : el (k + 1) x = if x.testBit k then el k x ++ [k] else el k x := by
  unfold el
  rw [List.range_succ, List.filter_append]
  by_cases h : x.testBit k = true
  · rw [if_pos h]; simp [h]
  · rw [if_neg h]; simp [h]
theorem el_more {x N M : Nat} (hx : x < 2 ^ N) (h : N ≤ M) : el M x = el N x := by
  refine asc_ext (el_asc _ _) (el_asc _ _) fun i => ?_
  rw [el_mem, el_mem]
  refine ⟨fun ⟨_, hb⟩ => ⟨?_, hb⟩, fun ⟨h1, hb⟩ => ⟨by omega, hb⟩⟩
  by_cases hl : i < N
  · exact hl
  · have := Nat.testBit_lt_two_pow (Nat.lt_of_lt_of_le hx (Nat.pow_le_pow_right (by omega) (show N ≤ i by omega)))
    rw [hb] at this; cases this
/-! ### the sum of two lists -/
def plus : List Nat → List Nat → List Nat
  | [], b => b
  | a, [] => a
  | x :: a, y :: b => if x < y then x :: plus a (y :: b) else if y < x then y :: plus (x :: a) b else plus a b
termination_by a b => a.length + b.length
theorem plus_nil (a : List Nat) : plus a [] = a := by cases a <;> unfold plus <;> rfl
theorem nil_plus (b : List Nat) : plus [] b = b := by unfold plus; rfl
theorem plus_step (x y : Nat) (a b : List Nat) : plus (x :: a) (y :: b) = if x < y then x :: plus a (y :: b) else if y < x then y :: plus (x :: a) b else plus a b := by rw [plus]
theorem plus_mem : ∀ (n : Nat) (a b : List Nat), a.length + b.length ≤ n → a.Pairwise (· < ·) → b.Pairwise (· < ·) → (∀ q, q ∈ plus a b ↔ ((q ∈ a ∧ q ∉ b) ∨ (q ∉ a ∧ q ∈ b))) ∧ (plus a b).Pairwise (· < ·)
  | n, [], b, _, _, hb => by rw [nil_plus]; exact ⟨fun q => by simp, hb⟩
  | n, x :: a, [], _, ha, _ => by rw [plus_nil]; exact ⟨fun q => by simp, ha⟩
  | 0, x :: a, y :: b, hn, _, _ => by simp at hn
  | n + 1, x :: a, y :: b, hn, ha, hb => by
    rw [plus_step]
    have ha' := List.pairwise_cons.1 ha
    have hb' := List.pairwise_cons.1 hb
    simp only [List.length_cons] at hn
    by_cases h1 : x < y
    · rw [if_pos h1]
      obtain ⟨m, p⟩ := plus_mem n a (y :: b) (by simp; omega) ha'.2 hb
      have hxa : x ∉ a := fun h => by have := ha'.1 x h; omega
      have hxb : x ∉ y :: b := fun h => by
        rcases List.mem_cons.1 h with e | h
        · omega
        · have := hb'.1 x h; omega
      refine ⟨fun q => ?_, ?_⟩
      · rw [List.mem_cons, m]
        by_cases e : q = x
        · subst e; simp [hxb]
        · simp [e]
      · rw [List.pairwise_cons]
        refine ⟨fun q hq => ?_, p⟩
        rcases (m q).1 hq with ⟨h2, _⟩ | ⟨_, h2⟩
        · exact ha'.1 q h2
        · rcases List.mem_cons.1 h2 with e | h3
          · omega
          · have := hb'.1 q h3; omega
    · rw [if_neg h1]
      by_cases h2 : y < x
      · rw [if_pos h2]
        obtain ⟨m, p⟩ := plus_mem n (x :: a) b (by simp; omega) ha hb'.2
        have hyb : y ∉ b := fun h => by have := hb'.1 y h; omega
        have hya : y ∉ x :: a := fun h => by
          rcases List.mem_cons.1 h with e | h
          · omega
          · have := ha'.1 y h; omega
        refine ⟨fun q => ?_, ?_⟩
        · rw [List.mem_cons, m]
          by_cases e : q = y
          · subst e; simp [hya]
          · simp [e]
        · rw [List.pairwise_cons]
          refine ⟨fun q hq => ?_, p⟩
          rcases (m q).1 hq with ⟨h3, _⟩ | ⟨_, h3⟩
          · rcases List.mem_cons.1 h3 with e | h4
            · omega
            · have := ha'.1 q h4; omega
          · exact hb'.1 q h3
      · rw [if_neg h2]
        have e : x = y := by omega
        subst e
        obtain ⟨m, p⟩ := plus_mem n a b (by omega) ha'.2 hb'.2
        have hxa : x ∉ a := fun h => by have := ha'.1 x h; omega
        have hxb : x ∉ b := fun h => by have := hb'.1 x h; omega
        refine ⟨fun q => ?_, p⟩
        rw [m]
        by_cases e : q = x
        · subst e; simp [hxa, hxb]
        · simp [e]
theorem plus_el (N x y : Nat) : plus (el N x) (el N y) = el N (x ^^^ y) := by
  obtain ⟨m, p⟩ := plus_mem _ (el N x) (el N y) (Nat.le_refl _) (el_asc _ _) (el_asc _ _)
  refine asc_ext p (el_asc _ _) fun q => ?_
  rw [m, el_mem, el_mem, el_mem, Nat.testBit_xor]
  by_cases hq : q < N
  · cases x.testBit q <;> cases y.testBit q <;> simp [hq]
  · simp [hq]
/-! ### parity -/
/-- Whether an odd number of the positions of a list are in x. -/
def odl (x : Nat) (l : List Nat) : Bool := l.foldl (fun b i => b != x.testBit i) false
theorem odl_fold (x : Nat) : ∀ (l : List Nat) (b : Bool), l.foldl (fun b i => b != x.testBit i) b = (b != odl x l)
  | [], b => by simp [odl]
  | i :: l, b => by
    show l.foldl (fun b i => b != x.testBit i) (b != x.testBit i) = (b != l.foldl (fun b i => b != x.testBit i) (false != x.testBit i))
    rw [odl_fold x l, odl_fold x l (false != x.testBit i)]
    cases b <;> cases x.testBit i <;> cases odl x l <;> rfl
theorem odl_snoc (x i : Nat) (l : List Nat) : odl x (l ++ [i]) = (odl x l != x.testBit i) := by unfold odl; rw [List.foldl_append]; rfl
end Go.Proofs.YtbefkngeffpokaaDoor
namespace Go.Proofs.YtbefkngeffpokaaDoor
set_option linter.unusedVariables false
set_option linter.unusedSimpArgs false

theorem Eqs.of_mem {R T : List Nat} (h : ∀ r, r ∈ R ↔ r ∈ T) : Eqs R T := ⟨fun r hr => .row ((h r).1 hr), fun r hr => .row ((h r).2 hr)⟩
/-- The first K rows. -/
def rows (K : Nat) (ρ : Nat → Nat) : List Nat := (List.range K).map ρ
theorem rows_mem {K : Nat} {ρ : Nat → Nat} {r : Nat} : r ∈ rows K ρ ↔ ∃ i, i < K ∧ ρ i = r := by
  unfold rows
  rw [List.mem_map]
  exact ⟨fun ⟨i, hi, e⟩ => ⟨i, List.mem_range.1 hi, e⟩, fun ⟨i, hi, e⟩ => ⟨i, List.mem_range.2 hi, e⟩⟩
theorem rows_sp {K : Nat} {ρ : Nat → Nat} {i : Nat} (h : i < K) : Sp (rows K ρ) (ρ i) := .row (rows_mem.2 ⟨i, h, rfl⟩)
theorem rows_congr {K : Nat} {ρ σ : Nat → Nat} (h : ∀ i, i < K → ρ i = σ i) : rows K ρ = rows K σ := List.map_congr_left fun i hi => h i (List.mem_range.1 hi)
/-! ### by columns -/
/-- Rows n and k change their places. -/
def swp (ρ : Nat → Nat) (n k : Nat) : Nat → Nat := fun i => if i = n then ρ k else if i = k then ρ n else ρ i
/-- All other rows with position c get row n added. -/
def clr (σ : Nat → Nat) (n c : Nat) : Nat → Nat := fun i => if i ≠ n ∧ (σ i).testBit c = true then σ i ^^^ σ n else σ i
theorem swp_eqs {K n k : Nat} (hn : n < K) (hk : k < K) (ρ : Nat → Nat) : Eqs (rows K ρ) (rows K (swp ρ n k)) := by
  refine Eqs.of_mem fun r => ?_
  rw [rows_mem, rows_mem]
  have key : ∀ i, i < K → ∃ j, j < K ∧ swp ρ n k j = ρ i := fun i hi => by
    by_cases h1 : i = k
    · exact ⟨n, hn, by unfold swp; rw [if_pos rfl, h1]⟩
    · by_cases h2 : i = n
      · refine ⟨k, hk, ?_⟩
        unfold swp
        by_cases h3 : k = n
        · rw [if_pos h3, h2, h3]
        · rw [if_neg h3, if_pos rfl, h2]
      · exact ⟨i, hi, by unfold swp; rw [if_neg h2, if_neg h1]⟩
  constructor
  · rintro ⟨i, hi, rfl⟩
    obtain ⟨j, hj, e⟩ := key i hi
    exact ⟨j, hj, e⟩
  · rintro ⟨i, hi, rfl⟩
    unfold swp
    by_cases h1 : i = n
    · rw [if_pos h1]; exact ⟨k, hk, rfl⟩
    · by_cases h2 : i = k
      · rw [if_neg h1, if_pos h2]; exact ⟨n, hn, rfl⟩
      · rw [if_neg h1, if_neg h2]; exact ⟨i, hi, rfl⟩
theorem clr_eqs {K n : Nat} (hn : n < K) (c : Nat) (σ : Nat → Nat) : Eqs (rows K σ) (rows K (clr σ n c)) := by
  have hnn : clr σ n c n = σ n := by unfold clr; rw [if_neg (by simp)]
  constructor
  · intro r hr
    obtain ⟨i, hi, rfl⟩ := rows_mem.1 hr
    have h1 := rows_sp (ρ := clr σ n c) hi
    by_cases h : i ≠ n ∧ (σ i).testBit c = true
    · have h2 := h1.sum (rows_sp (ρ := clr σ n c) hn)
      rw [hnn] at h2
      have e : clr σ n c i = σ i ^^^ σ n := by unfold clr; rw [if_pos h]
      rwa [e, xor_cancel] at h2
    · have e : clr σ n c i = σ i := by unfold clr; rw [if_neg h]
      rwa [e] at h1
  · intro r hr
    obtain ⟨i, hi, rfl⟩ := rows_mem.1 hr
    unfold clr
    by_cases h : i ≠ n ∧ (σ i).testBit c = true
    · rw [if_pos h]
      exact (rows_sp hi).sum (rows_sp hn)
    · rw [if_neg h]
      exact rows_sp hi
/-- The columns ahead of c are done, with n leading rows. -/
structure GJ (K : Nat) (M : List Nat) (c n : Nat) (ρ : Nat → Nat) (ps : List Nat) : Prop where
  eqs : Eqs M (rows K ρ)
  nK : n ≤ K
  len : ps.length = n
  asc : ps.Pairwise (· < ·)
  lt : ∀ p, p ∈ ps → p < c
  ld : ∀ i, i < n → Ld (ρ i) (ps.getD i 0)
  red : ∀ i j, i < n → j < K → i ≠ j → (ρ j).testBit (ps.getD i 0) = false
  low : ∀ j, n ≤ j → j < K → ∀ q, q < c → (ρ j).testBit q = false
theorem GJ.start (K : Nat) (ρ : Nat → Nat) : GJ K (rows K ρ) 0 0 ρ [] :=
  ⟨Eqs.refl _, Nat.zero_le _, rfl, .nil, fun p hp => by simp at hp, fun i hi => by omega, fun i j hi => by omega, fun j _ _ q hq => by omega⟩
theorem GJ.skip {K : Nat} {M : List Nat} {c n : Nat} {ρ : Nat → Nat} {ps : List Nat} (h : GJ K M c n ρ ps) (hno : ∀ j, n ≤ j → j < K → (ρ j).testBit c = false) : GJ K M (c + 1) n ρ ps :=
  ⟨h.eqs, h.nK, h.len, h.asc, fun p hp => by have := h.lt p hp; omega, h.ld, h.red, fun j h1 h2 q hq => by
    by_cases e : q = c
    · rw [e]; exact hno j h1 h2
    · exact h.low j h1 h2 q (by omega)⟩
theorem getD_app {ps : List Nat} {n c i : Nat} (hl : ps.length = n) : (ps ++ [c]).getD i 0 = if i < n then ps.getD i 0 else if i = n then c else 0 := by
  rw [List.getD_eq_getElem?_getD, List.getD_eq_getElem?_getD]
  by_cases h1 : i < n
  · rw [if_pos h1, List.getElem?_append_left (by omega)]
  · rw [if_neg h1, List.getElem?_append_right (by omega), hl]
    by_cases h2 : i = n
    · rw [if_pos h2, h2, Nat.sub_self]; rfl
    · rw [if_neg h2]
      obtain ⟨d, hd⟩ : ∃ d, i - n = d + 1 := ⟨i - n - 1, by omega⟩
      rw [hd]; rfl
theorem GJ.pivot {K : Nat} {M : List Nat} {c n k : Nat} {ρ : Nat → Nat} {ps : List Nat} (h : GJ K M c n ρ ps) (hk1 : n ≤ k) (hk2 : k < K) (hb : (ρ k).testBit c = true) : GJ K M (c + 1) (n + 1) (clr (swp ρ n k) n c) (ps ++ [c]) := by
  have hn : n < K := by omega
  obtain ⟨σ, hσ⟩ : ∃ σ, swp ρ n k = σ := ⟨_, rfl⟩
  have s0 : σ n = ρ k := by rw [← hσ]; unfold swp; rw [if_pos rfl]
  have s1 : ∀ i, i < n → σ i = ρ i := fun i hi => by rw [← hσ]; unfold swp; rw [if_neg (by omega), if_neg (by omega)]
  have s2 : ∀ j, n ≤ j → j < K → ∀ q, q < c → (σ j).testBit q = false := fun j h1 h2 q hq => by
    rw [← hσ]
    unfold swp
    by_cases e1 : j = n
    · rw [if_pos e1]; exact h.low k hk1 hk2 q hq
    · rw [if_neg e1]
      by_cases e2 : j = k
      · rw [if_pos e2]; exact h.low n (Nat.le_refl _) hn q hq
      · rw [if_neg e2]; exact h.low j h1 h2 q hq
  have s3 : ∀ i j, i < n → j < K → i ≠ j → (σ j).testBit (ps.getD i 0) = false := fun i j hi hj hij => by
    by_cases hjn : j < n
    · rw [s1 j hjn]; exact h.red i j hi hj hij
    · refine s2 j (by omega) hj _ (h.lt _ ?_)
      rw [List.getD_eq_getElem?_getD, List.getElem?_eq_getElem (by rw [h.len]; exact hi)]
      exact List.getElem_mem _
  have pl : ∀ i, i < n → ps.getD i 0 < c := fun i hi => h.lt _ (by
    rw [List.getD_eq_getElem?_getD, List.getElem?_eq_getElem (by rw [h.len]; exact hi)]
    exact List.getElem_mem _)
  have c0 : clr σ n c n = σ n := by unfold clr; rw [if_neg (by simp)]
  have cb : ∀ j q, q < c → (clr σ n c j).testBit q = (σ j).testBit q := fun j q hq => by
    unfold clr
    by_cases e : j ≠ n ∧ (σ j).testBit c = true
    · rw [if_pos e, Nat.testBit_xor, s2 n (Nat.le_refl _) hn q hq, Bool.xor_false]
    · rw [if_neg e]
  have cc : ∀ j, j ≠ n → (clr σ n c j).testBit c = false := fun j hj => by
    unfold clr
    by_cases e : (σ j).testBit c = true
    · rw [if_pos ⟨hj, e⟩, Nat.testBit_xor, e, s0, hb]; rfl
    · rw [if_neg (fun h => e h.2)]
      cases h2 : (σ j).testBit c with
      | false => rfl
      | true => exact absurd h2 e
  rw [hσ]
  refine ⟨(h.eqs.trans (hσ ▸ swp_eqs hn hk2 ρ)).trans (clr_eqs hn c σ), by omega, by rw [List.length_append, h.len]; rfl, ?_, ?_, ?_, ?_, ?_⟩
  · rw [List.pairwise_append]
    exact ⟨h.asc, by simp, fun a ha b hb => by rw [List.mem_singleton] at hb; rw [hb]; exact h.lt a ha⟩
  · intro p hp
    rcases List.mem_append.1 hp with hp | hp
    · have := h.lt p hp; omega
    · rw [List.mem_singleton] at hp; omega
  · intro i hi
    rw [getD_app h.len]
    by_cases e : i < n
    · rw [if_pos e]
      have l := h.ld i e
      have hp := pl i e
      refine ⟨?_, fun q hq => ?_⟩
      · rw [cb i _ hp, s1 i e]; exact l.at_
      · rw [cb i q (by omega), s1 i e]; exact l.low q hq
    · have e2 : i = n := by omega
      rw [if_neg e, if_pos e2, e2]
      refine ⟨by rw [c0, s0]; exact hb, fun q hq => ?_⟩
      rw [c0]
      exact s2 n (Nat.le_refl _) hn q hq
  · intro i j hi hj hij
    rw [getD_app h.len]
    by_cases e : i < n
    · rw [if_pos e, cb j _ (pl i e)]
      exact s3 i j e hj hij
    · have e2 : i = n := by omega
      rw [if_neg e, if_pos e2]
      exact cc j (by omega)
  · intro j h1 h2 q hq
    by_cases e : q = c
    · rw [e]; exact cc j (by omega)
    · rw [cb j q (by omega)]
      exact s2 j (by omega) h2 q (by omega)
theorem GJ.done {K : Nat} {M : List Nat} {C n : Nat} {ρ : Nat → Nat} {ps : List Nat} (h : GJ K M C n ρ ps) (hb : ∀ j, j < K → ρ j < 2 ^ C) : Ech (rows n ρ) ps ∧ Eqs M (rows n ρ) := by
  have hl : (rows n ρ).length = n := by simp [rows]
  have hg : ∀ i (hi : i < (rows n ρ).length), (rows n ρ)[i] = ρ i := fun i hi => by simp [rows]
  have hd : ∀ i (hi : i < ps.length), ps[i] = ps.getD i 0 := fun i hi => by rw [List.getD_eq_getElem?_getD, List.getElem?_eq_getElem hi]; rfl
  refine ⟨⟨by rw [hl, h.len], fun i hi => ?_, h.asc, fun i j hi hj hij => ?_⟩, h.eqs.trans ⟨fun r hr => ?_, fun r hr => ?_⟩⟩
  · rw [hg, hd]; exact h.ld i (by omega)
  · rw [hg, hd]; exact h.red i j (by omega) (by have := h.nK; omega) hij
  · obtain ⟨i, hi, rfl⟩ := rows_mem.1 hr
    by_cases e : i < n
    · exact rows_sp e
    · have h0 : ρ i = 0 := by
        apply Nat.eq_of_testBit_eq
        intro q
        rw [Nat.zero_testBit]
        by_cases hq : q < C
        · exact h.low i (by omega) hi q hq
        · exact Nat.testBit_lt_two_pow (Nat.lt_of_lt_of_le (hb i hi) (Nat.pow_le_pow_right (by omega) (by omega)))
      rw [h0]; exact .zero
  · obtain ⟨i, hi, rfl⟩ := rows_mem.1 hr
    exact rows_sp (by have := h.nK; omega)

/-! ### by rows -/
def upd (ρ : Nat → Nat) (c r : Nat) : Nat → Nat := fun d => if d = c then r else ρ d
theorem upd_at (ρ : Nat → Nat) (c r : Nat) : upd ρ c r c = r := by unfold upd; rw [if_pos rfl]
theorem upd_ne {ρ : Nat → Nat} {c r d : Nat} (h : d ≠ c) : upd ρ c r d = ρ d := by unfold upd; rw [if_neg h]
theorem upd_upd (ρ : Nat → Nat) (c r s : Nat) : upd (upd ρ c r) c s = upd ρ c s := by
  funext d
  unfold upd
  by_cases e : d = c
  · rw [if_pos e, if_pos e]
  · rw [if_neg e, if_neg e, if_neg e]
theorem upd_self (ρ : Nat → Nat) (c : Nat) : upd ρ c (ρ c) = ρ := by
  funext d
  unfold upd
  by_cases e : d = c
  · rw [if_pos e, e]
  · rw [if_neg e]
theorem map_sp {S : List Nat} {ρ : Nat → Nat} {c : Nat} (h : c ∈ S) : Sp (S.map ρ) (ρ c) := .row (List.mem_map.2 ⟨c, h, rfl⟩)
/-- A row gets another one added. -/
theorem add_eqs {S : List Nat} {ρ : Nat → Nat} {c d r : Nat} (hc : c ∈ S) (hd : d ∈ S) (hcd : d ≠ c) : Eqs (S.map (upd ρ c r)) (S.map (upd ρ c (r ^^^ ρ d))) := by
  constructor
  · intro x hx
    obtain ⟨e, he, rfl⟩ := List.mem_map.1 hx
    by_cases h : e = c
    · subst h
      rw [upd_at]
      have h1 := map_sp (ρ := upd ρ e (r ^^^ ρ d)) hc
      have h2 := map_sp (ρ := upd ρ e (r ^^^ ρ d)) hd
      rw [upd_at] at h1
      rw [upd_ne hcd] at h2
      have := h1.sum h2
      rwa [xor_cancel] at this
    · rw [upd_ne h]
      have := map_sp (ρ := upd ρ c (r ^^^ ρ d)) he
      rwa [upd_ne h] at this
  · intro x hx
    obtain ⟨e, he, rfl⟩ := List.mem_map.1 hx
    by_cases h : e = c
    · subst h
      rw [upd_at]
      have h1 := map_sp (ρ := upd ρ e r) hc
      have h2 := map_sp (ρ := upd ρ e r) hd
      rw [upd_at] at h1
      rw [upd_ne hcd] at h2
      exact h1.sum h2
    · rw [upd_ne h]
      have := map_sp (ρ := upd ρ c r) he
      rwa [upd_ne h] at this
theorem Ld.add {r s c d : Nat} (h : Ld r c) (k : Ld s d) (hcd : c < d) : Ld (r ^^^ s) c :=
  ⟨by rw [Nat.testBit_xor, h.at_, k.low c hcd]; rfl, fun q hq => by rw [Nat.testBit_xor, h.low q hq, k.low q (by omega)]; rfl⟩
/-- What is left of two rows with the same first position. -/
theorem Ld.same {r s c : Nat} (h : Ld r c) (k : Ld s c) : ∀ q, q < c + 1 → (r ^^^ s).testBit q = false := fun q hq => by
  rw [Nat.testBit_xor]
  by_cases e : q = c
  · rw [e, h.at_, k.at_]; rfl
  · rw [h.low q (by omega), k.low q (by omega)]; rfl
/-- Rows with different first positions, by these; what is sorted is an echelon form when no later first position is in a row. -/
theorem ech_of {S : List Nat} {ρ : Nat → Nat} (ha : S.Pairwise (· < ·)) (hl : ∀ c, c ∈ S → Ld (ρ c) c) (hr : ∀ c, c ∈ S → ∀ d, d ∈ S → c < d → (ρ c).testBit d = false) : Ech (S.map ρ) S := by
  refine ⟨by rw [List.length_map], fun i hi => ?_, ha, fun i j hi hj hij => ?_⟩
  · rw [List.getElem_map]; exact hl _ (List.getElem_mem _)
  · rw [List.getElem_map]
    have hi' : i < S.length := by simpa using hi
    have hj' : j < S.length := by simpa using hj
    have hp := List.pairwise_iff_getElem.1 ha
    rcases Nat.lt_trichotomy i j with h | h | h
    · exact (hl _ (List.getElem_mem hj')).low _ (hp i j hi' hj' h)
    · exact absurd h hij
    · exact hr _ (List.getElem_mem hj') _ (List.getElem_mem hi') (hp j i hj' hi' h)
end Go.Proofs.YtbefkngeffpokaaDoor
namespace Go.Proofs.YtbefkngeffpokaaDoor
set_option linter.unusedVariables false
set_option linter.unusedSimpArgs false

/-- The sum of the first n bits. -/
def xs (f : Nat → Bool) : Nat → Bool
  | 0 => false
  | n + 1 => xs f n ^^ f n
theorem xs_congr {f g : Nat → Bool} : ∀ {n : Nat}, (∀ j, j < n → f j = g j) → xs f n = xs g n
  | 0, _ => rfl
  | n + 1, h => by
    show (xs f n ^^ f n) = (xs g n ^^ g n)
    rw [xs_congr fun j hj => h j (by omega), h n (by omega)]
theorem xs_false : ∀ n, xs (fun _ => false) n = false
  | 0 => rfl
  | n + 1 => by
    show (xs (fun _ => false) n ^^ false) = false
    rw [xs_false n]; rfl
theorem xs_xor (f g : Nat → Bool) : ∀ n, xs (fun j => f j ^^ g j) n = (xs f n ^^ xs g n)
  | 0 => rfl
  | n + 1 => by
    show (xs (fun j => f j ^^ g j) n ^^ (f n ^^ g n)) = ((xs f n ^^ f n) ^^ (xs g n ^^ g n))
    rw [xs_xor f g n]
    cases xs f n <;> cases xs g n <;> cases f n <;> cases g n <;> rfl
theorem xs_and (c : Bool) (f : Nat → Bool) : ∀ n, xs (fun j => c && f j) n = (c && xs f n)
  | 0 => by cases c <;> rfl
  | n + 1 => by
    show (xs (fun j => c && f j) n ^^ (c && f n)) = (c && (xs f n ^^ f n))
    rw [xs_and c f n]
    cases c <;> cases xs f n <;> cases f n <;> rfl
theorem xs_swap (f : Nat → Nat → Bool) (m : Nat) : ∀ n, xs (fun i => xs (fun j => f i j) m) n = xs (fun j => xs (fun i => f i j) n) m
  | 0 => (xs_false m).symm
  | n + 1 => by
    show (xs (fun i => xs (fun j => f i j) m) n ^^ xs (fun j => f n j) m) = xs (fun j => xs (fun i => f i j) n ^^ f n j) m
    rw [xs_swap f m n, xs_xor]
/-- Bits that are all beyond m. -/
theorem xs_more {f : Nat → Bool} {m : Nat} (h : ∀ j, m ≤ j → f j = false) : ∀ d, xs f (m + d) = xs f m
  | 0 => rfl
  | d + 1 => by
    show (xs f (m + d) ^^ f (m + d)) = _
    rw [xs_more h d, h (m + d) (by omega), Bool.xor_false]
/-- One bit alone. -/
theorem xs_one {f : Nat → Bool} {k : Nat} : ∀ {n : Nat}, k < n → (∀ j, j < n → j ≠ k → f j = false) → xs f n = f k
  | 0, hk, _ => by omega
  | n + 1, hk, h => by
    show (xs f n ^^ f n) = f k
    by_cases e : k = n
    · subst e
      rw [xs_congr (g := fun _ => false) fun j hj => h j (by omega) (by omega), xs_false, Bool.false_xor]
    · rw [xs_one (by omega) fun j hj hjk => h j (by omega) hjk, h n (by omega) (by omega), Bool.xor_false]
/-! ### sums of rows -/
/-- x and the rows of a list. -/
def sumr (b : Nat → Nat) (x : Nat) (l : List Nat) : Nat := l.foldl (fun y j => y ^^^ b j) x
theorem sumr_snoc (b : Nat → Nat) (x i : Nat) (l : List Nat) : sumr b x (l ++ [i]) = sumr b x l ^^^ b i := by unfold sumr; rw [List.foldl_append]; rfl
theorem sumr_bit (b : Nat → Nat) (a k : Nat) : ∀ n, (sumr b 0 (el n a)).testBit k = xs (fun j => a.testBit j && (b j).testBit k) n
  | 0 => by simp [sumr, el, xs]
  | n + 1 => by
    rw [el_succ]
    show _ = (xs (fun j => a.testBit j && (b j).testBit k) n ^^ (a.testBit n && (b n).testBit k))
    rw [← sumr_bit b a k n]
    by_cases h : a.testBit n = true
    · rw [if_pos h, sumr_snoc, Nat.testBit_xor, h, Bool.true_and]
    · rw [if_neg h]
      have h2 : a.testBit n = false := by simpa using h
      rw [h2, Bool.false_and, Bool.xor_false]
theorem odl_bit (x y : Nat) : ∀ n, odl x (el n y) = xs (fun j => y.testBit j && x.testBit j) n
  | 0 => by simp [odl, el, xs]
  | n + 1 => by
    rw [el_succ]
    show _ = (xs (fun j => y.testBit j && x.testBit j) n ^^ (y.testBit n && x.testBit n))
    rw [← odl_bit x y n]
    by_cases h : y.testBit n = true
    · rw [if_pos h, odl_snoc, h, Bool.true_and]
    · rw [if_neg h]
      have h2 : y.testBit n = false := by simpa using h
      rw [h2, Bool.false_and, Bool.xor_false]
theorem sumr_lt {b : Nat → Nat} {N : Nat} : ∀ (l : List Nat) (x : Nat), x < 2 ^ N → (∀ j, j ∈ l → b j < 2 ^ N) → sumr b x l < 2 ^ N
  | [], x, hx, _ => hx
  | j :: l, x, hx, h => sumr_lt l (x ^^^ b j) (Nat.xor_lt_two_pow hx (h j List.mem_cons_self)) fun i hi => h i (List.mem_cons_of_mem _ hi)
/-- The rows of a product: n columns of a, which are the rows of b. -/
def mulr (n : Nat) (a b : Nat → Nat) : Nat → Nat := fun i => sumr b 0 (el n (a i))
theorem mulr_bit (n : Nat) (a b : Nat → Nat) (i k : Nat) : (mulr n a b i).testBit k = xs (fun j => (a i).testBit j && (b j).testBit k) n := sumr_bit b (a i) k n
/-- The rows of a transpose: K rows of a. -/
def trr (K : Nat) (a : Nat → Nat) : Nat → Nat := fun c => msk ((List.range K).filter fun i => (a i).testBit c)
theorem trr_bit (K : Nat) (a : Nat → Nat) (c i : Nat) : (trr K a c).testBit i = (decide (i < K) && (a i).testBit c) := by
  unfold trr
  rw [msk_bit (List.nodup_range.filter _), Bool.eq_iff_iff, decide_eq_true_iff, List.mem_filter, List.mem_range, Bool.and_eq_true, decide_eq_true_iff]
theorem trr_lt (K : Nat) (a : Nat → Nat) (c : Nat) : trr K a c < 2 ^ K := msk_lt (List.nodup_range.filter _) fun i hi => List.mem_range.1 (List.mem_filter.1 hi).1
/-- A matrix applied to a vector of n columns: K rows of a. -/
def imr (K n : Nat) (a : Nat → Nat) (x : Nat) : Nat := msk ((List.range K).filter fun i => odl x (el n (a i)))
theorem imr_bit (K n : Nat) (a : Nat → Nat) (x i : Nat) : (imr K n a x).testBit i = (decide (i < K) && xs (fun j => (a i).testBit j && x.testBit j) n) := by
  unfold imr
  rw [msk_bit (List.nodup_range.filter _), Bool.eq_iff_iff, decide_eq_true_iff, List.mem_filter, List.mem_range, Bool.and_eq_true, decide_eq_true_iff, odl_bit]
theorem imr_lt (K n : Nat) (a : Nat → Nat) (x : Nat) : imr K n a x < 2 ^ K := msk_lt (List.nodup_range.filter _) fun i hi => List.mem_range.1 (List.mem_filter.1 hi).1
/-! ### the ring -/
theorem mulr_assoc (n m : Nat) (a b c : Nat → Nat) (i : Nat) : mulr m (mulr n a b) c i = mulr n a (mulr m b c) i := by
  apply Nat.eq_of_testBit_eq
  intro k
  rw [mulr_bit, mulr_bit]
  have e1 : xs (fun j => (mulr n a b i).testBit j && (c j).testBit k) m = xs (fun j => xs (fun t => (a i).testBit t && ((b t).testBit j && (c j).testBit k)) n) m := xs_congr fun j _ => by
    rw [mulr_bit, Bool.and_comm, ← xs_and]
    exact xs_congr fun t _ => by cases (c j).testBit k <;> cases (a i).testBit t <;> cases (b t).testBit j <;> rfl
  have e2 : xs (fun t => (a i).testBit t && (mulr m b c t).testBit k) n = xs (fun t => xs (fun j => (a i).testBit t && ((b t).testBit j && (c j).testBit k)) m) n := xs_congr fun t _ => by
    rw [mulr_bit, ← xs_and]
  rw [e1, e2, xs_swap]
theorem mulr_add (n : Nat) (a b c : Nat → Nat) (i : Nat) : mulr n a (fun j => b j ^^^ c j) i = mulr n a b i ^^^ mulr n a c i := by
  apply Nat.eq_of_testBit_eq
  intro k
  rw [mulr_bit, Nat.testBit_xor, mulr_bit, mulr_bit, ← xs_xor]
  exact xs_congr fun j _ => by rw [Nat.testBit_xor]; cases (a i).testBit j <;> cases (b j).testBit k <;> cases (c j).testBit k <;> rfl
/-- The transpose of a product: K rows of a with n columns, n rows of b. -/
theorem trr_mulr {K n : Nat} {a b : Nat → Nat} {c : Nat} : mulr n (trr n b) (trr K a) c = trr K (mulr n a b) c := by
  apply Nat.eq_of_testBit_eq
  intro i
  rw [mulr_bit, trr_bit, mulr_bit, ← xs_and]
  exact xs_congr fun j hj => by
    rw [trr_bit, trr_bit, decide_eq_true hj]
    cases decide (i < K) <;> cases (a i).testBit j <;> cases (b j).testBit c <;> rfl
/-- The transpose of the transpose. -/
theorem trr_trr {K C : Nat} {a : Nat → Nat} {i : Nat} (hi : i < K) (h : a i < 2 ^ C) : trr C (trr K a) i = a i := by
  apply Nat.eq_of_testBit_eq
  intro c
  rw [trr_bit, trr_bit, decide_eq_true hi, Bool.true_and]
  by_cases hc : c < C
  · rw [decide_eq_true hc, Bool.true_and]
  · rw [decide_eq_false hc, Bool.false_and, Nat.testBit_lt_two_pow (Nat.lt_of_lt_of_le h (Nat.pow_le_pow_right (by omega) (by omega)))]
/-- A sum of rows and an image: each is the other's. -/
theorem dual (K n : Nat) (a : Nat → Nat) (x y : Nat) (hy : ∀ k, n ≤ k → x.testBit k = false) : odl (imr K n a x) (el K y) = odl x (el n (sumr a 0 (el K y))) := by
  rw [odl_bit, odl_bit]
  have e1 : xs (fun j => y.testBit j && (imr K n a x).testBit j) K = xs (fun j => xs (fun k => y.testBit j && ((a j).testBit k && x.testBit k)) n) K := xs_congr fun j hj => by
    rw [imr_bit, decide_eq_true hj, Bool.true_and, ← xs_and]
  have e2 : xs (fun k => (sumr a 0 (el K y)).testBit k && x.testBit k) n = xs (fun k => xs (fun j => y.testBit j && ((a j).testBit k && x.testBit k)) K) n := xs_congr fun k _ => by
    rw [sumr_bit, Bool.and_comm, ← xs_and]
    exact xs_congr fun j _ => by cases y.testBit j <;> cases (a j).testBit k <;> cases x.testBit k <;> rfl
  rw [e1, e2, xs_swap]
theorem imr_add (K n : Nat) (a : Nat → Nat) (x y : Nat) : imr K n a (x ^^^ y) = imr K n a x ^^^ imr K n a y := by
  apply Nat.eq_of_testBit_eq
  intro i
  rw [Nat.testBit_xor, imr_bit, imr_bit, imr_bit]
  have e : xs (fun j => (a i).testBit j && (x ^^^ y).testBit j) n = (xs (fun j => (a i).testBit j && x.testBit j) n ^^ xs (fun j => (a i).testBit j && y.testBit j) n) := by
    rw [← xs_xor]
    exact xs_congr fun j _ => by rw [Nat.testBit_xor]; cases (a i).testBit j <;> cases x.testBit j <;> cases y.testBit j <;> rfl
  rw [e]
  cases decide (i < K) <;> cases xs (fun j => (a i).testBit j && x.testBit j) n <;> cases xs (fun j => (a i).testBit j && y.testBit j) n <;> rfl
end Go.Proofs.YtbefkngeffpokaaDoor
namespace Go.Proofs.YtbefkngeffpokaaDoor
set_option linter.unusedVariables false
set_option linter.unusedSimpArgs false

/-- The first N positions. -/
def cut (N x : Nat) : Nat := x % 2 ^ N
theorem cut_bit (N x q : Nat) : (cut N x).testBit q = (decide (q < N) && x.testBit q) := by unfold cut; rw [Nat.testBit_mod_two_pow]
theorem cut_xor (N x y : Nat) : cut N (x ^^^ y) = cut N x ^^^ cut N y := by
  apply Nat.eq_of_testBit_eq
  intro q
  rw [cut_bit, Nat.testBit_xor, Nat.testBit_xor, cut_bit, cut_bit]
  cases decide (q < N) <;> cases x.testBit q <;> cases y.testBit q <;> rfl
theorem cut_zero (N : Nat) : cut N 0 = 0 := by unfold cut; simp
theorem cut_lt {N x : Nat} (h : x < 2 ^ N) : cut N x = x := Nat.mod_eq_of_lt h
theorem cut_sp {N : Nat} {R : List Nat} {v : Nat} (h : Sp R v) : Sp (R.map (cut N)) (cut N v) := by
  induction h with
  | zero => rw [cut_zero]; exact .zero
  | add v r _ hr ih => rw [cut_xor]; exact .add _ _ ih (List.mem_map.2 ⟨r, hr, rfl⟩)
theorem cut_none {N x : Nat} (h : ∀ q, q < N → x.testBit q = false) : cut N x = 0 := by
  apply Nat.eq_of_testBit_eq
  intro q
  rw [cut_bit, Nat.zero_testBit]
  by_cases hq : q < N
  · rw [h q hq, Bool.and_false]
  · rw [decide_eq_false hq, Bool.false_and]
theorem Ld.cut {x c N : Nat} (h : Ld x c) (hc : c < N) : Ld (cut N x) c :=
  ⟨by rw [cut_bit, h.at_, decide_eq_true hc]; rfl, fun q hq => by rw [cut_bit, h.low q hq, Bool.and_false]⟩
theorem sp_lt {R : List Nat} {N v : Nat} (hR : ∀ r, r ∈ R → r < 2 ^ N) (h : Sp R v) : v < 2 ^ N := by
  induction h with
  | zero => exact Nat.two_pow_pos N
  | add v r _ hr ih => exact Nat.xor_lt_two_pow ih (hR r hr)
theorem rows_more {i : Nat} {a : Nat → Nat} {v : Nat} (h : Sp (rows i a) v) : Sp (rows (i + 1) a) v := h.mono fun r hr => by
  obtain ⟨j, hj, rfl⟩ := rows_mem.1 hr
  exact rows_sp (by omega)
/-- The first i rows of a are in: S has their leading columns, ρ the rows that lead in them. -/
structure Ins (C i : Nat) (a : Nat → Nat) (S : List Nat) (ρ : Nat → Nat) : Prop where
  nd : S.Nodup
  lt : ∀ c, c ∈ S → c < C
  ld : ∀ c, c ∈ S → Ld (ρ c) c
  sub : ∀ c, c ∈ S → Sp (rows i a) (ρ c)
  sup : ∀ j, j < i → Sp (S.map fun c => cut (C + 1) (ρ c)) (cut (C + 1) (a j))
theorem Ins.nil (C : Nat) (a ρ : Nat → Nat) : Ins C 0 a [] ρ := ⟨List.nodup_nil, fun c h => absurd h (by simp), fun c h => absurd h (by simp), fun c h => absurd h (by simp), fun j h => absurd h (Nat.not_lt_zero _)⟩
/-- Row i is on its way, positions ahead of f are out. -/
structure Way (i : Nat) (a : Nat → Nat) (S : List Nat) (ρ : Nat → Nat) (f x : Nat) : Prop where
  low : ∀ q, q < f → x.testBit q = false
  sub : Sp (rows (i + 1) a) x
  dif : Sp (S.map ρ) (a i ^^^ x)
theorem Way.start (i : Nat) (a : Nat → Nat) (S : List Nat) (ρ : Nat → Nat) : Way i a S ρ 0 (a i) :=
  ⟨fun q h => absurd h (Nat.not_lt_zero _), rows_sp (Nat.lt_succ_self i), by rw [Nat.xor_self]; exact .zero⟩
theorem Way.add {C i f x c : Nat} {a ρ : Nat → Nat} {S : List Nat} (h : Ins C i a S ρ) (k : Way i a S ρ f x) (hc : c ∈ S) (hx : Ld x c) : Way i a S ρ (c + 1) (x ^^^ ρ c) :=
  ⟨hx.same (h.ld c hc), k.sub.sum (rows_more (h.sub c hc)), by rw [← Nat.xor_assoc]; exact k.dif.sum (map_sp hc)⟩
theorem Way.ld {i f x c : Nat} {a ρ : Nat → Nat} {S : List Nat} (k : Way i a S ρ f x) (hb : x.testBit c = true) (hl : ∀ q, f ≤ q → q < c → x.testBit q = false) : Ld x c :=
  ⟨hb, fun q hq => by
    by_cases h : q < f
    · exact k.low q h
    · exact hl q (by omega) hq⟩
theorem map_upd {S : List Nat} {ρ : Nat → Nat} {c x : Nat} (hc : c ∉ S) : S.map (upd ρ c x) = S.map ρ := List.map_congr_left fun d hd => upd_ne fun e => hc (e ▸ hd)
theorem Way.new {C i f x c : Nat} {a ρ : Nat → Nat} {S : List Nat} (h : Ins C i a S ρ) (k : Way i a S ρ f x) (hc : c ∉ S) (hx : Ld x c) (hlt : c < C) : Ins C (i + 1) a (S ++ [c]) (upd ρ c x) := by
  have hne : ∀ d, d ∈ S → d ≠ c := fun d hd e => hc (e ▸ hd)
  have hold : ∀ v, Sp (S.map fun c => cut (C + 1) (ρ c)) v → Sp ((S ++ [c]).map fun d => cut (C + 1) (upd ρ c x d)) v := fun v hv => hv.mono fun r hr => by
    obtain ⟨d, hd, rfl⟩ := List.mem_map.1 hr
    refine .row (List.mem_map.2 ⟨d, List.mem_append_left _ hd, ?_⟩)
    rw [upd_ne (hne d hd)]
  refine ⟨?_, ?_, ?_, ?_, ?_⟩
  · rw [List.nodup_append]
    exact ⟨h.nd, List.nodup_cons.2 ⟨by simp, List.nodup_nil⟩, fun d hd e he => by rw [List.mem_singleton] at he; rw [he]; exact hne d hd⟩
  · intro d hd
    rcases List.mem_append.1 hd with hd | hd
    · exact h.lt d hd
    · rw [List.mem_singleton] at hd; rw [hd]; exact hlt
  · intro d hd
    rcases List.mem_append.1 hd with hd | hd
    · rw [upd_ne (hne d hd)]; exact h.ld d hd
    · rw [List.mem_singleton] at hd; rw [hd, upd_at]; exact hx
  · intro d hd
    rcases List.mem_append.1 hd with hd | hd
    · rw [upd_ne (hne d hd)]; exact rows_more (h.sub d hd)
    · rw [List.mem_singleton] at hd; rw [hd, upd_at]; exact k.sub
  · intro j hj
    by_cases e : j < i
    · exact hold _ (h.sup j e)
    · have e2 : j = i := by omega
      subst e2
      have h1 := cut_sp (N := C + 1) k.dif
      rw [cut_xor, List.map_map] at h1
      have h2 := hold _ h1
      have h3 : Sp ((S ++ [c]).map fun d => cut (C + 1) (upd ρ c x d)) (cut (C + 1) x) := .row (List.mem_map.2 ⟨c, by simp, by rw [upd_at]⟩)
      have h4 := h2.sum h3
      rwa [xor_cancel] at h4
theorem Way.none {C i f x : Nat} {a ρ : Nat → Nat} {S : List Nat} (h : Ins C i a S ρ) (k : Way i a S ρ f x) (hno : ∀ q, q < C + 1 → x.testBit q = false) : Ins C (i + 1) a S ρ := by
  refine ⟨h.nd, h.lt, h.ld, fun d hd => rows_more (h.sub d hd), fun j hj => ?_⟩
  by_cases e : j < i
  · exact h.sup j e
  · have e2 : j = i := by omega
    subst e2
    have h1 := cut_sp (N := C + 1) k.dif
    rw [cut_xor, cut_none hno, Nat.xor_zero, List.map_map] at h1
    exact h1
theorem Ins.perm {C i : Nat} {a ρ : Nat → Nat} {S T : List Nat} (h : Ins C i a S ρ) (p : S.Perm T) : Ins C i a T ρ :=
  ⟨p.nodup_iff.1 h.nd, fun c hc => h.lt c (p.mem_iff.2 hc), fun c hc => h.ld c (p.mem_iff.2 hc), fun c hc => h.sub c (p.mem_iff.2 hc), fun j hj => (h.sup j hj).mono fun r hr => by
    obtain ⟨d, hd, rfl⟩ := List.mem_map.1 hr
    exact .row (List.mem_map.2 ⟨d, p.mem_iff.1 hd, rfl⟩)⟩
/-- A row gets one of a later leading column added. -/
theorem Ins.sum {C i c d : Nat} {a ρ : Nat → Nat} {S : List Nat} (h : Ins C i a S ρ) (hc : c ∈ S) (hd : d ∈ S) (hcd : c < d) : Ins C i a S (upd ρ c (ρ c ^^^ ρ d)) := by
  refine ⟨h.nd, h.lt, fun e he => ?_, fun e he => ?_, fun j hj => ?_⟩
  · by_cases g : e = c
    · rw [g, upd_at]; exact (h.ld c hc).add (h.ld d hd) hcd
    · rw [upd_ne g]; exact h.ld e he
  · by_cases g : e = c
    · rw [g, upd_at]; exact (h.sub c hc).sum (h.sub d hd)
    · rw [upd_ne g]; exact h.sub e he
  · have h1 := add_eqs (S := S) (ρ := fun c => cut (C + 1) (ρ c)) (c := c) (d := d) (r := cut (C + 1) (ρ c)) hc hd (by omega)
    have e1 : upd (fun c => cut (C + 1) (ρ c)) c (cut (C + 1) (ρ c)) = fun c => cut (C + 1) (ρ c) := upd_self (fun c => cut (C + 1) (ρ c)) c
    have e2 : upd (fun c => cut (C + 1) (ρ c)) c (cut (C + 1) (ρ c) ^^^ cut (C + 1) (ρ d)) = fun e => cut (C + 1) (upd ρ c (ρ c ^^^ ρ d) e) := by
      funext e
      by_cases g : e = c
      · rw [g, upd_at, upd_at, cut_xor]
      · rw [upd_ne g, upd_ne g]
    rw [e1, e2] at h1
    exact h1.sp.1 (h.sup j hj)
/-- The rows of the last k leading columns have no later one. -/
structure Bk (C i : Nat) (a : Nat → Nat) (S : List Nat) (ρ : Nat → Nat) (k : Nat) : Prop where
  ins : Ins C i a S ρ
  asc : S.Pairwise (· < ·)
  red : ∀ c, c ∈ S → S.length ≤ k + (S.filter (· < c)).length → ∀ d, d ∈ S → c < d → (ρ c).testBit d = false
/-- The row of c is under way: no leading column between it and f. -/
structure Bw (C i : Nat) (a : Nat → Nat) (S : List Nat) (ρ : Nat → Nat) (c f : Nat) : Prop where
  ins : Ins C i a S ρ
  asc : S.Pairwise (· < ·)
  mem : c ∈ S
  gap : c < f
  red : ∀ e, e ∈ S → c < e → ∀ d, d ∈ S → e < d → (ρ e).testBit d = false
  now : ∀ d, d ∈ S → c < d → d < f → (ρ c).testBit d = false
theorem Bw.skip {C i c f d : Nat} {a ρ : Nat → Nat} {S : List Nat} (h : Bw C i a S ρ c f) (hfd : f ≤ d) (hl : ∀ q, f ≤ q → q < d → (ρ c).testBit q = false) (hd : d ∉ S) : Bw C i a S ρ c (d + 1) :=
  ⟨h.ins, h.asc, h.mem, by have := h.gap; omega, h.red, fun e he h1 h2 => by
    by_cases g : e < f
    · exact h.now e he h1 g
    · have : e ≠ d := fun g => hd (g ▸ he)
      exact hl e (by omega) (by omega)⟩
theorem Bw.add {C i c f d : Nat} {a ρ : Nat → Nat} {S : List Nat} (h : Bw C i a S ρ c f) (hfd : f ≤ d) (hb : (ρ c).testBit d = true) (hl : ∀ q, f ≤ q → q < d → (ρ c).testBit q = false) (hd : d ∈ S) : Bw C i a S (upd ρ c (ρ c ^^^ ρ d)) c (d + 1) := by
  have hcd : c < d := by have := h.gap; omega
  refine ⟨h.ins.sum h.mem hd hcd, h.asc, h.mem, by omega, fun e he h1 g hg h2 => ?_, fun e he h1 h2 => ?_⟩
  · rw [upd_ne (by omega)]; exact h.red e he h1 g hg h2
  · rw [upd_at, Nat.testBit_xor]
    have ld := h.ins.ld d hd
    by_cases g : e = d
    · rw [g, hb, ld.at_]; rfl
    · rw [ld.low e (by omega)]
      by_cases g2 : e < f
      · rw [h.now e he h1 g2]; rfl
      · rw [hl e (by omega) (by omega)]; rfl
/-- All leading columns but k have lesser ones: that many. -/
theorem asc_below {S : List Nat} (h : S.Pairwise (· < ·)) : ∀ {j : Nat} (hj : j < S.length), (S.filter (· < S[j])).length = j := by
  induction S with
  | nil => intro j hj; simp at hj
  | cons s S ih =>
    intro j hj
    have h2 := List.pairwise_cons.1 h
    cases j with
    | zero =>
      simp only [List.getElem_cons_zero]
      rw [List.filter_eq_nil_iff.2]
      · rfl
      · intro x hx
        rcases List.mem_cons.1 hx with rfl | hx
        · simp
        · have := h2.1 x hx; simp; omega
    | succ j =>
      simp only [List.getElem_cons_succ]
      have hj' : j < S.length := by simpa using hj
      rw [List.filter_cons_of_pos (by have := h2.1 _ (List.getElem_mem hj'); simpa using this), List.length_cons, ih h2.2 hj']
theorem Bk.start {C i : Nat} {a ρ : Nat → Nat} {S : List Nat} (h : Ins C i a S ρ) (ha : S.Pairwise (· < ·)) : Bk C i a S ρ 0 :=
  ⟨h, ha, fun c hc hl => by
    obtain ⟨j, hj, rfl⟩ := List.mem_iff_getElem.1 hc
    rw [asc_below ha hj] at hl
    omega⟩
theorem Bk.enter {C i k : Nat} {a ρ : Nat → Nat} {S : List Nat} (h : Bk C i a S ρ k) (hk : k < S.length) : Bw C i a S ρ (S.getD (S.length - 1 - k) 0) (S.getD (S.length - 1 - k) 0 + 1) := by
  have hj : S.length - 1 - k < S.length := by omega
  have e : S.getD (S.length - 1 - k) 0 = S[S.length - 1 - k] := by rw [List.getD_eq_getElem?_getD, List.getElem?_eq_getElem hj]; rfl
  rw [e]
  refine ⟨h.ins, h.asc, List.getElem_mem hj, Nat.lt_succ_self _, fun d hd hcd g hg hdg => ?_, fun d hd h1 h2 => by omega⟩
  refine h.red d hd ?_ g hg hdg
  obtain ⟨j, hj2, rfl⟩ := List.mem_iff_getElem.1 hd
  rw [asc_below h.asc hj2]
  have hlt : S.length - 1 - k < j := by
    rcases Nat.lt_trichotomy (S.length - 1 - k) j with hh | hh | hh
    · exact hh
    · subst hh; omega
    · have := List.pairwise_iff_getElem.1 h.asc j (S.length - 1 - k) hj2 hj hh; omega
  omega
theorem Bk.leave {C i k f : Nat} {a ρ : Nat → Nat} {S : List Nat} (hk : k < S.length) (h : Bw C i a S ρ (S.getD (S.length - 1 - k) 0) f) (hl : ∀ q, f ≤ q → q < C → (ρ (S.getD (S.length - 1 - k) 0)).testBit q = false) : Bk C i a S ρ (k + 1) := by
  have hj : S.length - 1 - k < S.length := by omega
  have e : S.getD (S.length - 1 - k) 0 = S[S.length - 1 - k] := by rw [List.getD_eq_getElem?_getD, List.getElem?_eq_getElem hj]; rfl
  rw [e] at h hl
  refine ⟨h.ins, h.asc, fun c hc hle d hd hcd => ?_⟩
  obtain ⟨j, hj2, rfl⟩ := List.mem_iff_getElem.1 hc
  rw [asc_below h.asc hj2] at hle
  by_cases g : j = S.length - 1 - k
  · subst g
    by_cases g2 : d < f
    · exact h.now d hd hcd g2
    · exact hl d (by omega) (h.ins.lt d hd)
  · refine h.red _ hc ?_ d hd hcd
    exact List.pairwise_iff_getElem.1 h.asc _ _ hj hj2 (by omega)
theorem Bk.done {C K : Nat} {a ρ : Nat → Nat} {S : List Nat} (h : Bk C K a S ρ S.length) : Ech (S.map fun c => cut (C + 1) (ρ c)) S ∧ Eqs (rows K fun i => cut (C + 1) (a i)) (S.map fun c => cut (C + 1) (ρ c)) := by
  refine ⟨ech_of h.asc (fun c hc => (h.ins.ld c hc).cut (by have := h.ins.lt c hc; omega)) fun c hc d hd hcd => ?_, fun r hr => ?_, fun r hr => ?_⟩
  · rw [cut_bit, h.red c hc (by omega) d hd hcd, Bool.and_false]
  · obtain ⟨j, hj, rfl⟩ := rows_mem.1 hr
    exact h.ins.sup j hj
  · obtain ⟨c, hc, rfl⟩ := List.mem_map.1 hr
    have h1 := cut_sp (N := C + 1) (h.ins.sub c hc)
    unfold rows at h1
    rw [List.map_map] at h1
    exact h1
end Go.Proofs.YtbefkngeffpokaaDoor
namespace Go.Proofs.YtbefkngeffpokaaDoor
set_option linter.unusedVariables false
set_option linter.unusedSimpArgs false

/-- The echelon form of the rows M: leading columns S, the row that leads in each. -/
structure Can (C : Nat) (M : List Nat) (S : List Nat) (σ : Nat → Nat) : Prop where
  lt : ∀ c, c ∈ S → c < C
  ech : Ech (S.map σ) S
  eqs : Eqs M (S.map σ)
  out : ∀ c, c ∉ S → σ c = 0
theorem Ech.same_ps {R ps qs : List Nat} (h : Ech R ps) (k : Ech R qs) : ps = qs := by
  apply List.ext_getElem (by rw [h.len, k.len])
  intro i hi hi'
  exact (h.ld i (by rw [← h.len]; exact hi)).uniq (k.ld i (by rw [← h.len]; exact hi))
theorem Can.uniq {C D : Nat} {M : List Nat} {S T : List Nat} {σ τ : Nat → Nat} (h : Can C M S σ) (k : Can D M T τ) : S = T ∧ σ = τ := by
  have e := h.ech.uniq k.ech (h.eqs.symm.trans k.eqs)
  have e1 := h.ech
  rw [e] at e1
  have e2 := e1.same_ps k.ech
  refine ⟨e2, ?_⟩
  subst e2
  funext c
  by_cases hc : c ∈ S
  · obtain ⟨i, hi, rfl⟩ := List.mem_iff_getElem.1 hc
    have := List.getElem_of_eq e (i := i) (by simpa using hi)
    simpa using this
  · rw [h.out c hc, k.out c hc]
theorem Can.asc {C : Nat} {M S : List Nat} {σ : Nat → Nat} (h : Can C M S σ) : S.Pairwise (· < ·) := h.ech.asc
theorem Can.nd {C : Nat} {M S : List Nat} {σ : Nat → Nat} (h : Can C M S σ) : S.Nodup := asc_nodup h.asc
theorem Can.ld {C : Nat} {M S : List Nat} {σ : Nat → Nat} (h : Can C M S σ) {c : Nat} (hc : c ∈ S) : Ld (σ c) c := by
  obtain ⟨i, hi, rfl⟩ := List.mem_iff_getElem.1 hc
  have := h.ech.ld i (by simpa using hi)
  simpa using this
theorem Can.bit {C : Nat} {M S : List Nat} {σ : Nat → Nat} (h : Can C M S σ) {c d : Nat} (hc : c ∈ S) (hd : d ∈ S) : (σ c).testBit d = decide (d = c) := by
  by_cases e : d = c
  · rw [e, (h.ld hc).at_]; simp
  · obtain ⟨i, hi, rfl⟩ := List.mem_iff_getElem.1 hc
    obtain ⟨j, hj, rfl⟩ := List.mem_iff_getElem.1 hd
    have := h.ech.red j i (by simpa using hj) (by simpa using hi) (fun g => e (by subst g; rfl))
    rw [decide_eq_false e]
    simpa using this
theorem Can.sp {C : Nat} {M S : List Nat} {σ : Nat → Nat} (h : Can C M S σ) {c : Nat} (hc : c ∈ S) : Sp M (σ c) := h.eqs.2 _ (List.mem_map.2 ⟨c, hc, rfl⟩)
theorem Can.bnd {C N : Nat} {M S : List Nat} {σ : Nat → Nat} (h : Can C M S σ) (hM : ∀ r, r ∈ M → r < 2 ^ N) (c : Nat) : σ c < 2 ^ N := by
  by_cases hc : c ∈ S
  · exact sp_lt hM (h.sp hc)
  · rw [h.out c hc]; exact Nat.two_pow_pos N
/-- What holds for sums and for the rows of the echelon form holds for all sums. -/
theorem Can.ind {C : Nat} {M S : List Nat} {σ : Nat → Nat} (h : Can C M S σ) {P : Nat → Prop} (h0 : P 0) (hs : ∀ u v, P u → P v → P (u ^^^ v)) (hr : ∀ c, c ∈ S → P (σ c)) {v : Nat} (hv : Sp M v) : P v := by
  have h1 := h.eqs.sp.1 hv
  clear hv
  induction h1 with
  | zero => exact h0
  | add v r _ hm ih =>
    obtain ⟨c, hc, rfl⟩ := List.mem_map.1 hm
    exact hs _ _ ih (hr c hc)
/-- The echelon form of leading rows that were found in order. -/
theorem can_mk {C : Nat} {M S : List Nat} {σ : Nat → Nat} (hl : ∀ c, c ∈ S → c < C) (he : Ech (S.map σ) S) (hq : Eqs M (S.map σ)) : Can C M S (fun c => if c ∈ S then σ c else 0) := by
  have e : S.map (fun c => if c ∈ S then σ c else 0) = S.map σ := List.map_congr_left fun c hc => if_pos hc
  exact ⟨hl, by rw [e]; exact he, by rw [e]; exact hq, fun c hc => if_neg hc⟩
/-- Rows that were found by their places. -/
theorem can_rows {C n : Nat} {M ps : List Nat} {ρ : Nat → Nat} (hl : ∀ p, p ∈ ps → p < C) (he : Ech (rows n ρ) ps) (hq : Eqs M (rows n ρ)) : ∃ σ, Can C M ps σ ∧ ps.length = n ∧ ∀ i, i < n → σ (ps.getD i 0) = ρ i := by
  have hn : ps.length = n := by rw [he.len]; simp [rows]
  have nd := asc_nodup he.asc
  have hσ : ∃ σ : Nat → Nat, ∀ i, i < n → σ (ps.getD i 0) = ρ i := by
    refine ⟨fun c => ρ (ps.idxOf c), fun i hi => ?_⟩
    have hi' : i < ps.length := by omega
    have e : ps.getD i 0 = ps[i] := by rw [List.getD_eq_getElem?_getD, List.getElem?_eq_getElem hi']; rfl
    show ρ (ps.idxOf (ps.getD i 0)) = ρ i
    rw [e]
    have h2 : ps.idxOf ps[i] < ps.length := List.idxOf_lt_length_of_mem (List.getElem_mem hi')
    have h3 : ps[ps.idxOf ps[i]] = ps[i] := List.getElem_idxOf h2
    have h4 : ps.idxOf ps[i] = i := by
      rcases Nat.lt_trichotomy (ps.idxOf ps[i]) i with h | h | h
      · have := List.pairwise_iff_getElem.1 he.asc _ _ h2 hi' h; omega
      · exact h
      · have := List.pairwise_iff_getElem.1 he.asc _ _ hi' h2 h; omega
    rw [h4]
  obtain ⟨σ, hσ⟩ := hσ
  have e : ps.map σ = rows n ρ := by
    apply List.ext_getElem (by rw [List.length_map, hn]; simp [rows])
    intro i hi hi'
    have hi2 : i < ps.length := by simpa using hi
    have h5 := hσ i (by omega)
    have e : ps.getD i 0 = ps[i] := by rw [List.getD_eq_getElem?_getD, List.getElem?_eq_getElem hi2]; rfl
    rw [e] at h5
    simp [rows, h5]
  refine ⟨_, can_mk hl (by rw [e]; exact he) (by rw [e]; exact hq), hn, fun i hi => ?_⟩
  have hi' : i < ps.length := by omega
  have e : ps.getD i 0 ∈ ps := by rw [List.getD_eq_getElem?_getD, List.getElem?_eq_getElem hi']; exact List.getElem_mem _
  show (if ps.getD i 0 ∈ ps then σ (ps.getD i 0) else 0) = _
  rw [if_pos e, hσ i hi]
/-- The columns, one by one, always end. -/
theorem gj_all {K : Nat} {r : Nat → Nat} : ∀ c, ∃ n ρ ps, GJ K (rows K r) c n ρ ps
  | 0 => ⟨_, _, _, GJ.start K r⟩
  | c + 1 => by
    obtain ⟨n, ρ, ps, h⟩ := gj_all (K := K) (r := r) c
    by_cases hx : ∃ j, n ≤ j ∧ j < K ∧ (ρ j).testBit c = true
    · obtain ⟨j, h1, h2, h3⟩ := hx
      exact ⟨_, _, _, h.pivot h1 h2 h3⟩
    · refine ⟨_, _, _, h.skip fun j h1 h2 => ?_⟩
      cases hv : (ρ j).testBit c with
      | false => rfl
      | true => exact absurd ⟨j, h1, h2, hv⟩ hx
theorem gj_can {K C n : Nat} {r ρ : Nat → Nat} {ps : List Nat} (hr : ∀ i, i < K → r i < 2 ^ C) (h : GJ K (rows K r) C n ρ ps) : ∃ σ, Can C (rows K r) ps σ ∧ ps.length = n ∧ ∀ i, i < n → σ (ps.getD i 0) = ρ i := by
  have hb : ∀ j, j < K → ρ j < 2 ^ C := fun j hj => sp_lt (R := rows K r) (fun x hx => by obtain ⟨i, hi, rfl⟩ := rows_mem.1 hx; exact hr i hi) (h.eqs.2 _ (rows_mem.2 ⟨j, hj, rfl⟩))
  obtain ⟨h1, h2⟩ := h.done hb
  exact can_rows h.lt h1 h2
theorem can_of {K C : Nat} {r : Nat → Nat} (hr : ∀ i, i < K → r i < 2 ^ C) : ∃ S σ, Can C (rows K r) S σ := by
  obtain ⟨n, ρ, ps, h⟩ := gj_all (K := K) (r := r) C
  obtain ⟨σ, h1, _⟩ := gj_can hr h
  exact ⟨_, σ, h1⟩
theorem Can.len_le {K C : Nat} {r : Nat → Nat} {S : List Nat} {σ : Nat → Nat} (h : Can C (rows K r) S σ) (hr : ∀ i, i < K → r i < 2 ^ C) : S.length ≤ K := by
  obtain ⟨n, ρ, ps, g⟩ := gj_all (K := K) (r := r) C
  obtain ⟨τ, h1, h2, _⟩ := gj_can hr g
  obtain ⟨e, _⟩ := h.uniq h1
  rw [e, h2]
  exact g.nK
theorem asc_len {S : List Nat} {C : Nat} (ha : S.Pairwise (· < ·)) (hl : ∀ c, c ∈ S → c < C) : S.length ≤ C := by
  rw [← el_msk ha hl]
  exact el_len _ _
theorem Can.len_leC {C : Nat} {M S : List Nat} {σ : Nat → Nat} (h : Can C M S σ) : S.length ≤ C := asc_len h.asc h.lt
theorem Can.getD_mem {C i : Nat} {M S : List Nat} {σ : Nat → Nat} (h : Can C M S σ) (hi : i < S.length) : S.getD i 0 ∈ S := by
  rw [List.getD_eq_getElem?_getD, List.getElem?_eq_getElem hi]; exact List.getElem_mem _
/-! ### right sides -/
/-- Row i with its right side behind it. -/
def wide (C : Nat) (r : Nat → Nat) (b : Nat) (i : Nat) : Nat := if b.testBit i then r i ^^^ 2 ^ C else r i
/-- And its own position behind that. -/
def aug (C : Nat) (r : Nat → Nat) (b : Nat) (i : Nat) : Nat := if b.testBit i then r i ^^^ 2 ^ (C + 1 + i) ^^^ 2 ^ C else r i ^^^ 2 ^ (C + 1 + i)
theorem big_bit {C x q : Nat} (h : x < 2 ^ C) (hq : C ≤ q) : x.testBit q = false := Nat.testBit_lt_two_pow (Nat.lt_of_lt_of_le h (Nat.pow_le_pow_right (by omega) hq))
theorem wide_bit {C b i : Nat} {r : Nat → Nat} (h : r i < 2 ^ C) (q : Nat) : (wide C r b i).testBit q = if q < C then (r i).testBit q else if q = C then b.testBit i else false := by
  unfold wide
  by_cases hb : b.testBit i = true
  · rw [if_pos hb, Nat.testBit_xor, Nat.testBit_two_pow]
    by_cases h1 : q < C
    · rw [if_pos h1, decide_eq_false (by omega), Bool.xor_false]
    · rw [if_neg h1, big_bit h (by omega), Bool.false_xor]
      by_cases h2 : q = C
      · rw [if_pos h2, hb, decide_eq_true h2.symm]
      · rw [if_neg h2, decide_eq_false (fun e => h2 e.symm)]
  · rw [if_neg hb]
    by_cases h1 : q < C
    · rw [if_pos h1]
    · rw [if_neg h1, big_bit h (by omega)]
      have : b.testBit i = false := by simpa using hb
      rw [this]; simp
theorem aug_eq (C : Nat) (r : Nat → Nat) (b i : Nat) : aug C r b i = wide C r b i ^^^ 2 ^ (C + 1 + i) := by
  unfold aug wide
  by_cases hb : b.testBit i = true
  · rw [if_pos hb, if_pos hb, Nat.xor_assoc, Nat.xor_assoc, Nat.xor_comm (2 ^ (C + 1 + i))]
  · rw [if_neg hb, if_neg hb]
theorem aug_bit {C b i : Nat} {r : Nat → Nat} (h : r i < 2 ^ C) {q : Nat} (hq : q ≤ C) : (aug C r b i).testBit q = (wide C r b i).testBit q := by
  rw [aug_eq, Nat.testBit_xor, Nat.testBit_two_pow, decide_eq_false (by omega), Bool.xor_false]
theorem aug_own {C b i : Nat} {r : Nat → Nat} (h : r i < 2 ^ C) (k : Nat) : (aug C r b i).testBit (C + 1 + k) = decide (k = i) := by
  rw [aug_eq, Nat.testBit_xor, Nat.testBit_two_pow, wide_bit h, if_neg (by omega), if_neg (by omega), Bool.false_xor]
  by_cases e : k = i
  · rw [decide_eq_true (by omega), decide_eq_true e]
  · rw [decide_eq_false (by omega), decide_eq_false e]
theorem wide_lt {C b i : Nat} {r : Nat → Nat} (h : r i < 2 ^ C) : wide C r b i < 2 ^ (C + 1) := by
  apply Nat.lt_pow_two_of_testBit
  intro q hq
  rw [wide_bit h, if_neg (by omega), if_neg (by omega)]
theorem aug_lt {C b i K : Nat} {r : Nat → Nat} (h : r i < 2 ^ C) (hi : i < K) : aug C r b i < 2 ^ (C + 1 + K) := by
  apply Nat.lt_pow_two_of_testBit
  intro q hq
  rw [aug_eq, Nat.testBit_xor, Nat.testBit_two_pow, decide_eq_false (by omega), big_bit (wide_lt h) (by omega)]; rfl
theorem aug_cut {C b i : Nat} {r : Nat → Nat} (h : r i < 2 ^ C) : cut (C + 1) (aug C r b i) = wide C r b i := by
  apply Nat.eq_of_testBit_eq
  intro q
  rw [cut_bit]
  by_cases hq : q < C + 1
  · rw [decide_eq_true hq, Bool.true_and, aug_bit h (by omega)]
  · rw [decide_eq_false hq, Bool.false_and, big_bit (wide_lt h) (by omega)]
theorem rows_sub {m K : Nat} {a : Nat → Nat} {v : Nat} (hm : m ≤ K) (h : Sp (rows m a) v) : Sp (rows K a) v := h.mono fun x hx => by
  obtain ⟨j, hj, rfl⟩ := rows_mem.1 hx
  exact rows_sp (by omega)
theorem xs_pick {g : Nat → Bool} {j K : Nat} (hj : j < K) : xs (fun k => decide (k = j) && g k) K = g j := by
  rw [xs_one (k := j) hj (fun k _ hk => by rw [decide_eq_false hk, Bool.false_and]), decide_eq_true rfl, Bool.true_and]
/-- A sum of rows shows, behind the columns, of which it is the sum. -/
theorem aug_sp {C K b : Nat} {r : Nat → Nat} (hr : ∀ i, i < K → r i < 2 ^ C) {x : Nat} (h : Sp (rows K (aug C r b)) x) {q : Nat} (hq : q ≤ C) : x.testBit q = xs (fun k => x.testBit (C + 1 + k) && (wide C r b k).testBit q) K := by
  induction h with
  | zero =>
    rw [Nat.zero_testBit]
    have : xs (fun k => (0 : Nat).testBit (C + 1 + k) && (wide C r b k).testBit q) K = xs (fun _ => false) K := xs_congr fun j _ => by rw [Nat.zero_testBit, Bool.false_and]
    rw [this, xs_false]
  | add v s _ hs ih =>
    obtain ⟨j, hj, rfl⟩ := rows_mem.1 hs
    rw [Nat.testBit_xor, ih, aug_bit (hr j hj) hq]
    have e : xs (fun k => (v ^^^ aug C r b j).testBit (C + 1 + k) && (wide C r b k).testBit q) K = xs (fun k => (v.testBit (C + 1 + k) && (wide C r b k).testBit q) ^^ (decide (k = j) && (wide C r b k).testBit q)) K := xs_congr fun k _ => by
      rw [Nat.testBit_xor, aug_own (hr j hj)]
      cases v.testBit (C + 1 + k) <;> cases decide (k = j) <;> cases (wide C r b k).testBit q <;> rfl
    rw [e, xs_xor, xs_pick (g := fun k => (wide C r b k).testBit q) hj]
theorem aug_later {C K b i : Nat} {r : Nat → Nat} (hr : ∀ i, i < K → r i < 2 ^ C) (hi : i ≤ K) {x : Nat} (h : Sp (rows i (aug C r b)) x) {k : Nat} (hk : i ≤ k) : x.testBit (C + 1 + k) = false := by
  induction h with
  | zero => rw [Nat.zero_testBit]
  | add v s _ hs ih =>
    obtain ⟨j, hj, rfl⟩ := rows_mem.1 hs
    rw [Nat.testBit_xor, ih, aug_own (hr j (by omega)), decide_eq_false (by omega)]; rfl
/-- The rows y are a refutation of the right side b. -/
def Rf (K : Nat) (r : Nat → Nat) (b y : Nat) : Prop := sumr r 0 (el K y) = 0 ∧ odl b (el K y) = true
theorem rf_of {C K b : Nat} {r : Nat → Nat} (hr : ∀ i, i < K → r i < 2 ^ C) {x : Nat} (h : Sp (rows K (aug C r b)) x) (hx : Ld x C) : Rf K r b (x >>> (C + 1)) := by
  constructor
  · apply Nat.eq_of_testBit_eq
    intro q
    rw [Nat.zero_testBit, sumr_bit]
    by_cases hq : q < C
    · have h1 := aug_sp hr h (show q ≤ C by omega)
      rw [hx.low q hq] at h1
      rw [h1]
      exact xs_congr fun k hk => by rw [Nat.testBit_shiftRight, wide_bit (hr k hk), if_pos hq]
    · rw [← xs_false K]
      exact xs_congr fun k hk => by rw [big_bit (hr k hk) (by omega), Bool.and_false]
  · rw [odl_bit]
    have h1 := aug_sp hr h (Nat.le_refl C)
    rw [hx.at_] at h1
    rw [h1]
    exact xs_congr fun k hk => by rw [Nat.testBit_shiftRight, wide_bit (hr k hk), if_neg (by omega), if_pos rfl]
/-- The solution: the leading columns whose rows have the right side. -/
def sol (C : Nat) (S : List Nat) (σ : Nat → Nat) : List Nat := S.filter fun c => (σ c).testBit C
theorem sol_asc {C D : Nat} {M S : List Nat} {σ : Nat → Nat} (h : Can D M S σ) : (sol C S σ).Pairwise (· < ·) := h.asc.filter _
theorem sol_lt {C : Nat} {M S : List Nat} {σ : Nat → Nat} (h : Can (C + 1) M S σ) (hC : C ∉ S) : ∀ c, c ∈ sol C S σ → c < C := fun c hc => by
  have h1 := (List.mem_filter.1 hc).1
  have h2 := h.lt c h1
  have h3 : c ≠ C := fun e => hC (e ▸ h1)
  omega
theorem sol_el {C : Nat} {M S : List Nat} {σ : Nat → Nat} (h : Can (C + 1) M S σ) (hC : C ∉ S) : el C (msk (sol C S σ)) = sol C S σ := el_msk (sol_asc h) (sol_lt h hC)
theorem sol_ok {C K b : Nat} {r : Nat → Nat} (hr : ∀ i, i < K → r i < 2 ^ C) (hb : b < 2 ^ K) {S : List Nat} {σ : Nat → Nat} (h : Can (C + 1) (rows K (wide C r b)) S σ) (hC : C ∉ S) : imr K C r (msk (sol C S σ)) = b := by
  have key : ∀ v, Sp (rows K (wide C r b)) v → xs (fun j => v.testBit j && (msk (sol C S σ)).testBit j) C = v.testBit C := fun v hv => by
    refine h.ind (P := fun v => xs (fun j => v.testBit j && (msk (sol C S σ)).testBit j) C = v.testBit C) ?_ (fun u v hu hv => ?_) (fun c hc => ?_) hv
    · rw [Nat.zero_testBit, ← xs_false C]
      exact xs_congr fun j _ => by rw [Nat.zero_testBit, Bool.false_and]
    · have e : xs (fun j => (u ^^^ v).testBit j && (msk (sol C S σ)).testBit j) C = xs (fun j => (u.testBit j && (msk (sol C S σ)).testBit j) ^^ (v.testBit j && (msk (sol C S σ)).testBit j)) C := xs_congr fun j _ => by
        rw [Nat.testBit_xor]
        cases u.testBit j <;> cases v.testBit j <;> cases (msk (sol C S σ)).testBit j <;> rfl
      rw [e, xs_xor, hu, hv, Nat.testBit_xor]
    · have hcC : c < C := by
        have h2 := h.lt c hc
        have h3 : c ≠ C := fun e => hC (e ▸ hc)
        omega
      have hm : ∀ j, (msk (sol C S σ)).testBit j = decide (j ∈ S ∧ (σ j).testBit C = true) := fun j => by
        rw [msk_bit (asc_nodup (sol_asc h))]
        congr 1
        unfold sol
        rw [List.mem_filter]
      rw [xs_one (k := c) hcC fun j _ hj => ?_]
      · rw [hm, (h.ld hc).at_, Bool.true_and]
        cases hv : (σ c).testBit C with
        | true => exact decide_eq_true ⟨hc, rfl⟩
        | false => exact decide_eq_false fun g => by cases g.2
      · rw [hm]
        by_cases g : j ∈ S
        · rw [h.bit hc g, decide_eq_false hj, Bool.false_and]
        · rw [decide_eq_false fun g2 => g g2.1, Bool.and_false]
  apply Nat.eq_of_testBit_eq
  intro i
  rw [imr_bit]
  by_cases hi : i < K
  · rw [decide_eq_true hi, Bool.true_and]
    have h1 := key _ (rows_sp (ρ := wide C r b) hi)
    rw [wide_bit (hr i hi) C, if_neg (by omega), if_pos rfl] at h1
    rw [← h1]
    exact xs_congr fun j hj => by rw [wide_bit (hr i hi), if_pos hj]
  · rw [decide_eq_false hi, Bool.false_and, big_bit hb (by omega)]
/-- A refutation refutes: what a vector is mapped to has none. -/
theorem rf_not {C K x y : Nat} {r : Nat → Nat} (hx : x < 2 ^ C) (h : sumr r 0 (el K y) = 0) : odl (imr K C r x) (el K y) = false := by
  rw [dual K C r x y (fun k hk => big_bit hx hk), h, el_zero]; rfl
/-- Where the right side leads, there is no solution; else there is no refutation. -/
theorem lead_of {C K b : Nat} {r : Nat → Nat} (hr : ∀ i, i < K → r i < 2 ^ C) {S : List Nat} {σ : Nat → Nat} (h : Can (C + 1) (rows K (wide C r b)) S σ) {x : Nat} (hx : Sp (rows K (aug C r b)) x) (hl : Ld x C) : C ∈ S := by
  have h1 := cut_sp (N := C + 1) hx
  unfold rows at h1
  rw [List.map_map] at h1
  have e : (List.range K).map (cut (C + 1) ∘ aug C r b) = rows K (wide C r b) := List.map_congr_left fun i hi => aug_cut (hr i (List.mem_range.1 hi))
  rw [e] at h1
  exact h.ech.lead (h.eqs.1 |> fun g => h1.mono g) (hl.cut (Nat.lt_succ_self C))
theorem bk_can {C K : Nat} {a ρ : Nat → Nat} {S : List Nat} (h : Bk C K a S ρ S.length) {D : Nat} (hD : C ≤ D) : Can D (rows K fun i => cut (C + 1) (a i)) S (fun c => if c ∈ S then cut (C + 1) (ρ c) else 0) := by
  obtain ⟨h1, h2⟩ := h.done
  exact can_mk (fun c hc => by have := h.ins.lt c hc; omega) h1 h2
/-! ### the kernel -/
/-- The columns that do not lead. -/
def nl (C : Nat) (S : List Nat) : List Nat := (List.range C).filter fun c => decide (c ∉ S)
theorem nl_mem {C c : Nat} {S : List Nat} : c ∈ nl C S ↔ c < C ∧ c ∉ S := by
  unfold nl
  rw [List.mem_filter, List.mem_range, decide_eq_true_iff]
theorem nl_asc (C : Nat) (S : List Nat) : (nl C S).Pairwise (· < ·) := List.pairwise_lt_range.filter _
theorem nl_len {C : Nat} {S : List Nat} (ha : S.Pairwise (· < ·)) (hl : ∀ c, c ∈ S → c < C) : S.length + (nl C S).length = C := by
  have e : (List.range C).filter (fun c => decide (c ∈ S)) = S := by
    refine asc_ext (List.pairwise_lt_range.filter _) ha fun i => ?_
    rw [List.mem_filter, List.mem_range, decide_eq_true_iff]
    exact ⟨fun h => h.2, fun h => ⟨hl i h, h⟩⟩
  have h : ∀ l : List Nat, (l.filter fun c => decide (c ∈ S)).length + (l.filter fun c => decide (c ∉ S)).length = l.length := fun l => by
    induction l with
    | nil => rfl
    | cons x l ih =>
      by_cases hx : x ∈ S
      · rw [List.filter_cons_of_pos (by simpa using hx), List.filter_cons_of_neg (by simpa using hx)]
        simp only [List.length_cons]; omega
      · rw [List.filter_cons_of_neg (by simpa using hx), List.filter_cons_of_pos (by simpa using hx)]
        simp only [List.length_cons]; omega
  have := h (List.range C)
  rw [e, List.length_range] at this
  exact this
/-- The row of the kernel for a column that does not lead: the leading columns whose rows have it, and itself. -/
def krl (S : List Nat) (σ : Nat → Nat) (c : Nat) : List Nat := S.filter (fun p => (σ p).testBit c) ++ [c]
def kr (S : List Nat) (σ : Nat → Nat) (c : Nat) : Nat := msk (krl S σ c)
theorem krl_asc {C c : Nat} {M S : List Nat} {σ : Nat → Nat} (h : Can C M S σ) (hc : c ∉ S) : (krl S σ c).Pairwise (· < ·) := by
  unfold krl
  rw [List.pairwise_append]
  refine ⟨h.asc.filter _, by simp, fun p hp q hq => ?_⟩
  rw [List.mem_singleton] at hq
  obtain ⟨h1, h2⟩ := List.mem_filter.1 hp
  have h3 := h.ld h1
  rw [hq]
  rcases Nat.lt_trichotomy p c with g | g | g
  · exact g
  · exact absurd (g ▸ h1) hc
  · have := h3.low c g; rw [this] at h2; cases h2
theorem krl_lt {C c : Nat} {M S : List Nat} {σ : Nat → Nat} (h : Can C M S σ) (hc : c < C) : ∀ p, p ∈ krl S σ c → p < C := fun p hp => by
  rcases List.mem_append.1 hp with hp | hp
  · exact h.lt p (List.mem_filter.1 hp).1
  · rw [List.mem_singleton] at hp; omega
theorem kr_el {C c : Nat} {M S : List Nat} {σ : Nat → Nat} (h : Can C M S σ) (hc : c < C) (hn : c ∉ S) : el C (kr S σ c) = krl S σ c := el_msk (krl_asc h hn) (krl_lt h hc)
theorem kr_lt {C c : Nat} {M S : List Nat} {σ : Nat → Nat} (h : Can C M S σ) (hc : c < C) (hn : c ∉ S) : kr S σ c < 2 ^ C := msk_lt (asc_nodup (krl_asc h hn)) (krl_lt h hc)
theorem kr_bit {C c : Nat} {M S : List Nat} {σ : Nat → Nat} (h : Can C M S σ) (hn : c ∉ S) (j : Nat) : (kr S σ c).testBit j = (decide (j ∈ S ∧ (σ j).testBit c = true) || decide (j = c)) := by
  unfold kr
  rw [msk_bit (asc_nodup (krl_asc h hn)), ← Bool.decide_or]
  congr 1
  unfold krl
  rw [List.mem_append, List.mem_filter, List.mem_singleton]
/-- A vector of the kernel is mapped to nothing. -/
theorem kr_none {C c : Nat} {M S : List Nat} {σ : Nat → Nat} (h : Can C M S σ) (hc : c < C) (hn : c ∉ S) {v : Nat} (hv : Sp M v) : odl (kr S σ c) (el C v) = false := by
  rw [odl_bit]
  refine h.ind (P := fun v => xs (fun j => v.testBit j && (kr S σ c).testBit j) C = false) ?_ (fun u v hu hv => ?_) (fun p hp => ?_) hv
  · rw [← xs_false C]
    exact xs_congr fun j _ => by rw [Nat.zero_testBit, Bool.false_and]
  · have e : xs (fun j => (u ^^^ v).testBit j && (kr S σ c).testBit j) C = xs (fun j => (u.testBit j && (kr S σ c).testBit j) ^^ (v.testBit j && (kr S σ c).testBit j)) C := xs_congr fun j _ => by
      rw [Nat.testBit_xor]
      cases u.testBit j <;> cases v.testBit j <;> cases (kr S σ c).testBit j <;> rfl
    rw [e, xs_xor, hu, hv]; rfl
  · have hpc : p ≠ c := fun e => hn (e ▸ hp)
    have e : xs (fun j => (σ p).testBit j && (kr S σ c).testBit j) C = xs (fun j => (decide (j = p) && (σ p).testBit c) ^^ (decide (j = c) && (σ p).testBit c)) C := xs_congr fun j _ => by
      rw [kr_bit h hn]
      by_cases g : j = c
      · subst g
        have e1 : decide (j = p) = false := decide_eq_false fun g => hpc g.symm
        rw [e1]
        simp [hn]
      · by_cases g2 : j = p
        · subst g2
          rw [decide_eq_true rfl, decide_eq_false hpc, (h.ld hp).at_]
          simp [hp]
        · rw [decide_eq_false g, decide_eq_false g2]
          by_cases g3 : j ∈ S
          · rw [h.bit hp g3, decide_eq_false g2]; simp
          · simp [g3]
    rw [e, xs_xor, xs_pick (g := fun _ => (σ p).testBit c) (h.lt p hp), xs_pick (g := fun _ => (σ p).testBit c) hc]
    simp
end Go.Proofs.YtbefkngeffpokaaDoor
namespace Go.Proofs.YtbefkngeffpokaaDoor
set_option linter.unusedVariables false
set_option linter.unusedSimpArgs false

theorem nodup_lt : ∀ (n : Nat) (l : List Nat), l.Nodup → (∀ x, x ∈ l → x < n) → l.length ≤ n
  | 0, [], _, _ => Nat.le_refl _
  | 0, x :: l, _, h => absurd (h x List.mem_cons_self) (Nat.not_lt_zero _)
  | n + 1, l, hn, h => by
    by_cases hm : n ∈ l
    · have h1 := nodup_lt n (l.erase n) (hn.erase n) fun x hx => by
        have h2 := h x (List.mem_of_mem_erase hx)
        have h3 : x ≠ n := ((hn.mem_erase_iff).1 hx).1
        omega
      rw [List.length_erase_of_mem hm] at h1
      omega
    · have := nodup_lt n l hn fun x hx => by
        have h2 := h x hx
        have h3 : x ≠ n := fun e => hm (e ▸ hx)
        omega
      omega
/-- Every sum of n rows is the sum of those that a mask names. -/
theorem sp_mask {n : Nat} {v : Nat → Nat} {x : Nat} (h : Sp (rows n v) x) : ∃ m, m < 2 ^ n ∧ sumr v 0 (el n m) = x := by
  induction h with
  | zero => exact ⟨0, Nat.two_pow_pos n, by rw [el_zero]; rfl⟩
  | add u r _ hr ih =>
    obtain ⟨m, hm, rfl⟩ := ih
    obtain ⟨i, hi, rfl⟩ := rows_mem.1 hr
    refine ⟨m ^^^ 2 ^ i, Nat.xor_lt_two_pow hm (Nat.pow_lt_pow_right (by omega) hi), ?_⟩
    apply Nat.eq_of_testBit_eq
    intro k
    rw [Nat.testBit_xor, sumr_bit, sumr_bit]
    have e : xs (fun j => (m ^^^ 2 ^ i).testBit j && (v j).testBit k) n = xs (fun j => (m.testBit j && (v j).testBit k) ^^ (decide (j = i) && (v j).testBit k)) n := xs_congr fun j _ => by
      rw [Nat.testBit_xor, Nat.testBit_two_pow]
      have e2 : decide (i = j) = decide (j = i) := by
        by_cases g : i = j
        · rw [decide_eq_true g, decide_eq_true g.symm]
        · rw [decide_eq_false g, decide_eq_false fun e => g e.symm]
      rw [e2]
      cases m.testBit j <;> cases decide (j = i) <;> cases (v j).testBit k <;> rfl
    rw [e, xs_xor, xs_pick (g := fun j => (v j).testBit k) hi]
theorem sumr_sp {n : Nat} {v : Nat → Nat} {M : List Nat} (h : ∀ i, i < n → Sp M (v i)) : ∀ (l : List Nat) (x : Nat), Sp M x → (∀ i, i ∈ l → i < n) → Sp M (sumr v x l)
  | [], x, hx, _ => hx
  | i :: l, x, hx, hl => sumr_sp h l (x ^^^ v i) (hx.sum (h i (hl i List.mem_cons_self))) fun j hj => hl j (List.mem_cons_of_mem _ hj)
/-- n' sums of n rows, each with a position that no other one has, are at most n. -/
theorem dim_le {n n' : Nat} {u v : Nat → Nat} {q : Nat → Nat} (hu : ∀ i, i < n' → Sp (rows n v) (u i)) (hq : ∀ i j, i < n' → j < n' → (u i).testBit (q j) = decide (i = j)) : n' ≤ n := by
  have hf : ∀ m, ∃ k, k < 2 ^ n ∧ sumr v 0 (el n k) = sumr u 0 (el n' m) := fun m => sp_mask (sumr_sp hu (el n' m) 0 .zero fun i hi => (el_mem.1 hi).1)
  obtain ⟨f, hf⟩ := Classical.axiomOfChoice hf
  have hinj : ∀ m m', m < 2 ^ n' → m' < 2 ^ n' → f m = f m' → m = m' := fun m m' hm hm' e => by
    have h1 := (hf m).2
    have h2 := (hf m').2
    rw [e, h2] at h1
    apply Nat.eq_of_testBit_eq
    intro j
    by_cases hj : j < n'
    · have h3 := congrArg (fun x => x.testBit (q j)) h1
      simp only [sumr_bit] at h3
      have e2 : ∀ m : Nat, xs (fun i => m.testBit i && (u i).testBit (q j)) n' = m.testBit j := fun m => by
        rw [xs_one (k := j) hj fun i hi hij => by rw [hq i j hi hj, decide_eq_false hij, Bool.and_false]]
        rw [hq j j hj hj, decide_eq_true rfl, Bool.and_true]
      rw [e2, e2] at h3
      exact h3.symm
    · rw [big_bit hm (by omega), big_bit hm' (by omega)]
  have hl := nodup_lt (2 ^ n) ((List.range (2 ^ n')).map f) (by
    rw [List.nodup_iff_pairwise_ne, List.pairwise_map]
    refine List.Pairwise.imp_of_mem (fun {a b} ha hb hab e => ?_) (List.pairwise_lt_range (n := 2 ^ n'))
    have := hinj a b (List.mem_range.1 ha) (List.mem_range.1 hb) e
    omega) fun x hx => by
    obtain ⟨m, _, rfl⟩ := List.mem_map.1 hx
    exact (hf m).1
  rw [List.length_map, List.length_range] at hl
  rcases Nat.lt_or_ge n n' with h | h
  · have := Nat.pow_lt_pow_right (a := 2) (by omega) h
    omega
  · exact h
theorem Can.at_ {C i : Nat} {M S : List Nat} {σ : Nat → Nat} (hi : i < S.length) : S.getD i 0 = S[i] := by rw [List.getD_eq_getElem?_getD, List.getElem?_eq_getElem hi]; rfl
theorem Can.rows_eq (S : List Nat) (σ : Nat → Nat) : S.map σ = rows S.length fun i => σ (S.getD i 0) := by
  apply List.ext_getElem (by simp [rows])
  intro i hi hi'
  have : i < S.length := by simpa using hi
  simp [rows, List.getD_eq_getElem?_getD, this]
theorem getD_inj {S : List Nat} (hn : S.Nodup) {i j : Nat} (hi : i < S.length) (hj : j < S.length) (h : S.getD i 0 = S.getD j 0) : i = j := by
  rw [List.getD_eq_getElem?_getD, List.getD_eq_getElem?_getD, List.getElem?_eq_getElem hi, List.getElem?_eq_getElem hj] at h
  exact (List.getElem_inj hn).1 h
theorem Can.dual {C : Nat} {M S : List Nat} {σ : Nat → Nat} (h : Can C M S σ) (i j : Nat) (hi : i < S.length) (hj : j < S.length) : (σ (S.getD i 0)).testBit (S.getD j 0) = decide (i = j) := by
  rw [h.bit (h.getD_mem hi) (h.getD_mem hj)]
  by_cases e : i = j
  · rw [e, decide_eq_true rfl, decide_eq_true rfl]
  · rw [decide_eq_false e, decide_eq_false (fun g => e (getD_inj h.nd hi hj (Eq.symm g)))]
/-- A sum of rows by its leading columns. -/
theorem Can.split {C : Nat} {M S : List Nat} {σ : Nat → Nat} (h : Can C M S σ) {v : Nat} (hv : Sp M v) (k : Nat) : v.testBit k = xs (fun i => v.testBit (S.getD i 0) && (σ (S.getD i 0)).testBit k) S.length := by
  refine h.ind (P := fun v => v.testBit k = xs (fun i => v.testBit (S.getD i 0) && (σ (S.getD i 0)).testBit k) S.length) ?_ (fun u w hu hw => ?_) (fun c hc => ?_) hv
  · rw [Nat.zero_testBit, ← xs_false S.length]
    exact xs_congr fun j _ => by rw [Nat.zero_testBit, Bool.false_and]
  · have e : xs (fun i => (u ^^^ w).testBit (S.getD i 0) && (σ (S.getD i 0)).testBit k) S.length = xs (fun i => (u.testBit (S.getD i 0) && (σ (S.getD i 0)).testBit k) ^^ (w.testBit (S.getD i 0) && (σ (S.getD i 0)).testBit k)) S.length := xs_congr fun j _ => by
      rw [Nat.testBit_xor]
      cases u.testBit (S.getD j 0) <;> cases w.testBit (S.getD j 0) <;> cases (σ (S.getD j 0)).testBit k <;> rfl
    rw [e, xs_xor, ← hu, ← hw, Nat.testBit_xor]
  · obtain ⟨i, hi, rfl⟩ := List.mem_iff_getElem.1 hc
    have e : S[i] = S.getD i 0 := by rw [List.getD_eq_getElem?_getD, List.getElem?_eq_getElem hi]; rfl
    rw [e, xs_one (k := i) hi fun j hj hji => by rw [h.dual i j hi hj, decide_eq_false (fun g => hji (Eq.symm g)), Bool.false_and]]
    rw [h.dual i i hi hi, decide_eq_true rfl, Bool.true_and]
/-- The rank of the transpose is no greater. -/
theorem rank_le {K C : Nat} {r : Nat → Nat} {S T : List Nat} {σ τ : Nat → Nat} (h : Can C (rows K r) S σ) (k : Can K (rows C (trr K r)) T τ) : T.length ≤ S.length := by
  refine dim_le (u := fun i => τ (T.getD i 0)) (v := fun i => trr K r (S.getD i 0)) (q := fun j => T.getD j 0) (fun i hi => ?_) fun i j hi hj => k.dual i j hi hj
  refine (k.sp (k.getD_mem hi)).mono fun x hx => ?_
  obtain ⟨c, hc, rfl⟩ := rows_mem.1 hx
  have e : trr K r c = sumr (fun i => trr K r (S.getD i 0)) 0 (el S.length (msk ((List.range S.length).filter fun i => (σ (S.getD i 0)).testBit c))) := by
    apply Nat.eq_of_testBit_eq
    intro j
    rw [sumr_bit, trr_bit]
    by_cases hj : j < K
    · rw [decide_eq_true hj, Bool.true_and, h.split (rows_sp hj) c]
      exact xs_congr fun i hi => by
        rw [msk_bit (List.nodup_range.filter _), trr_bit, decide_eq_true hj, Bool.true_and]
        have e2 : decide (i ∈ (List.range S.length).filter fun i => (σ (S.getD i 0)).testBit c) = (σ (S.getD i 0)).testBit c := by
          rw [Bool.eq_iff_iff, decide_eq_true_iff, List.mem_filter, List.mem_range]
          exact ⟨fun g => g.2, fun g => ⟨hi, g⟩⟩
        rw [e2, Bool.and_comm]
    · rw [decide_eq_false hj, Bool.false_and, ← xs_false S.length]
      exact xs_congr fun i _ => by rw [trr_bit, decide_eq_false hj, Bool.false_and, Bool.and_false]
  rw [e]
  exact sumr_sp (fun i hi => rows_sp hi) _ 0 .zero fun i hi => (el_mem.1 hi).1
theorem rank_eq {K C : Nat} {r : Nat → Nat} (hr : ∀ i, i < K → r i < 2 ^ C) {S T : List Nat} {σ τ : Nat → Nat} (h : Can C (rows K r) S σ) (k : Can K (rows C (trr K r)) T τ) : S.length = T.length := by
  have h1 := rank_le h k
  have e : rows K (trr C (trr K r)) = rows K r := rows_congr fun i hi => trr_trr hi (hr i hi)
  have h2 := rank_le k (by rw [e]; exact h)
  omega
/-- The rows of the kernel are independent. -/
theorem kr_rank {C D : Nat} {M S T : List Nat} {σ τ : Nat → Nat} (h : Can C M S σ) (k : Can D (rows (nl C S).length fun i => kr S σ ((nl C S).getD i 0)) T τ) (hT : T.length ≤ (nl C S).length) : T.length = (nl C S).length := by
  have hm : ∀ i, i < (nl C S).length → (nl C S).getD i 0 ∈ nl C S := fun i hi => by
    rw [List.getD_eq_getElem?_getD, List.getElem?_eq_getElem hi]; exact List.getElem_mem _
  have h1 := dim_le (n := T.length) (n' := (nl C S).length) (u := fun i => kr S σ ((nl C S).getD i 0)) (v := fun i => τ (T.getD i 0)) (q := fun j => (nl C S).getD j 0) (fun i hi => ?_) (fun i j hi hj => ?_)
  · omega
  · have := k.eqs.1 _ (rows_mem.2 ⟨i, hi, rfl⟩)
    rw [Can.rows_eq] at this
    exact this
  · have h3 := nl_mem.1 (hm i hi)
    have h4 := nl_mem.1 (hm j hj)
    rw [kr_bit h h3.2, decide_eq_false (fun g => h4.2 g.1), Bool.false_or]
    by_cases e : i = j
    · rw [e, decide_eq_true rfl, decide_eq_true rfl]
    · rw [decide_eq_false e, decide_eq_false fun g => e (getD_inj (asc_nodup (nl_asc C S)) hi hj g.symm)]
theorem dim_leK {K C : Nat} {r : Nat → Nat} {S : List Nat} {σ : Nat → Nat} (h : Can C (rows K r) S σ) : S.length ≤ K := dim_le (fun i hi => h.sp (h.getD_mem hi)) h.dual
end Go.Proofs.YtbefkngeffpokaaDoor
