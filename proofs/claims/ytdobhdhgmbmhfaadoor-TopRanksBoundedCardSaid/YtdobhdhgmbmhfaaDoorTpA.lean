/- Kernels and ranks of products, in plain numbers. -/
import Derived.Test.YtdobhdhgmbmhfaaDoorMmA
namespace Go.Proofs.YtdobhdhgmbmhfaaDoor
set_option linter.unusedVariables false
set_option linter.unusedSimpArgs false

theorem sp_ind {M : List Nat} {P : Nat → Prop} (h0 : P 0) (hs : ∀ u v, P u → P v → P (u ^^^ v)) (hr : ∀ r, r ∈ M → P r) {v : Nat} (hv : Sp M v) : P v := by
  induction hv with
  | zero => exact h0
  | add u r _ hm ih => exact hs _ _ ih (hr r hm)
theorem xs_add (x u v C : Nat) : xs (fun j => x.testBit j && (u ^^^ v).testBit j) C = (xs (fun j => x.testBit j && u.testBit j) C ^^ xs (fun j => x.testBit j && v.testBit j) C) := by
  rw [← xs_xor]
  exact xs_congr fun j _ => by
    rw [Nat.testBit_xor]
    cases x.testBit j <;> cases u.testBit j <;> cases v.testBit j <;> rfl
theorem xs_comm (x v C : Nat) : xs (fun j => x.testBit j && v.testBit j) C = xs (fun j => v.testBit j && x.testBit j) C := xs_congr fun j _ => Bool.and_comm _ _
theorem xs_nil (x C : Nat) : xs (fun j => x.testBit j && (0 : Nat).testBit j) C = false := by
  rw [← xs_false C]
  exact xs_congr fun j _ => by rw [Nat.zero_testBit, Bool.and_false]
/-- What is mapped to nothing meets no sum of rows in an odd number of columns. -/
theorem ker_odd {K C v : Nat} {r : Nat → Nat} (h0 : imr K C r v = 0) {x : Nat} (hx : Sp (rows K r) x) : xs (fun j => v.testBit j && x.testBit j) C = false := by
  refine sp_ind (P := fun x => xs (fun j => v.testBit j && x.testBit j) C = false) (xs_nil v C) (fun a b ha hb => by rw [xs_add, ha, hb]; rfl) (fun x hx => ?_) hx
  obtain ⟨i, hi, rfl⟩ := rows_mem.1 hx
  have h := imr_bit K C r v i
  rw [h0, Nat.zero_testBit, decide_eq_true hi, Bool.true_and] at h
  rw [xs_comm]
  exact h.symm
/-- A vector that is mapped to nothing is a sum of rows of the kernel. -/
theorem ker_span {K C : Nat} {r : Nat → Nat} {S : List Nat} {σ : Nat → Nat} (h : Can C (rows K r) S σ) {v : Nat} (hv : v < 2 ^ C) (h0 : imr K C r v = 0) : ∃ s, s < 2 ^ (nl C S).length ∧ sumr (fun i => kr S σ ((nl C S).getD i 0)) 0 (el (nl C S).length s) = v := by
  obtain ⟨n, hn⟩ : ∃ n, (nl C S).length = n := ⟨_, rfl⟩
  obtain ⟨L, hL⟩ : ∃ L : Nat → Nat, (fun i => (nl C S).getD i 0) = L := ⟨_, rfl⟩
  have hLi : ∀ i, (nl C S).getD i 0 = L i := fun i => congrFun hL i
  have hm : ∀ i, i < n → L i < C ∧ L i ∉ S := fun i hi => by
    rw [← hLi, List.getD_eq_getElem?_getD, List.getElem?_eq_getElem (by rw [hn]; exact hi)]
    exact nl_mem.1 (List.getElem_mem _)
  have hall : ∀ j, j < C → j ∉ S → ∃ i, i < n ∧ L i = j := fun j hj hjS => by
    obtain ⟨i, hi, e⟩ := List.mem_iff_getElem.1 (nl_mem.2 ⟨hj, hjS⟩ : j ∈ nl C S)
    exact ⟨i, by rw [← hn]; exact hi, by rw [← hLi, List.getD_eq_getElem?_getD, List.getElem?_eq_getElem hi]; exact e⟩
  have hinj : ∀ i j, i < n → j < n → L i = L j → i = j := fun i j hi hj e => by
    rw [← hLi, ← hLi] at e
    exact getD_inj (asc_nodup (nl_asc C S)) (by omega) (by omega) e
  rw [hn]
  simp only [hLi]
  obtain ⟨s, hs⟩ : ∃ s, msk ((List.range n).filter fun i => v.testBit (L i)) = s := ⟨_, rfl⟩
  have hsb : ∀ i, i < n → s.testBit i = v.testBit (L i) := fun i hi => by
    rw [← hs, msk_bit (List.nodup_range.filter _), Bool.eq_iff_iff, decide_eq_true_iff, List.mem_filter, List.mem_range]
    exact ⟨fun g => g.2, fun g => ⟨hi, g⟩⟩
  have hsl : s < 2 ^ n := by rw [← hs]; exact msk_lt (List.nodup_range.filter _) fun i hi => List.mem_range.1 (List.mem_filter.1 hi).1
  refine ⟨s, hsl, ?_⟩
  obtain ⟨t, ht⟩ : ∃ t, sumr (fun i => kr S σ (L i)) 0 (el n s) = t := ⟨_, rfl⟩
  rw [ht]
  have htl : t < 2 ^ C := by
    rw [← ht]
    exact sumr_lt _ _ (Nat.two_pow_pos _) fun i hi => kr_lt h (hm i (el_mem.1 hi).1).1 (hm i (el_mem.1 hi).1).2
  have hodd : ∀ x, Sp (rows K r) x → xs (fun j => x.testBit j && (v ^^^ t).testBit j) C = false := fun x hx => by
    rw [xs_add, xs_comm x v, ker_odd h0 hx, Bool.false_xor, ← ht]
    refine sp_ind (M := rows n fun i => kr S σ (L i)) (P := fun t => xs (fun j => x.testBit j && t.testBit j) C = false) (xs_nil x C) (fun a b ha hb => by rw [xs_add, ha, hb]; rfl) (fun y hy => ?_) (sumr_sp (fun i hi => rows_sp hi) _ 0 .zero fun i hi => (el_mem.1 hi).1)
    obtain ⟨i, hi, rfl⟩ := rows_mem.1 hy
    have := kr_none h (hm i hi).1 (hm i hi).2 hx
    rwa [odl_bit] at this
  have hfree : ∀ i, i < n → (v ^^^ t).testBit (L i) = false := fun i hi => by
    rw [Nat.testBit_xor, ← ht, sumr_bit]
    rw [xs_one (k := i) hi fun k hk hki => by
      rw [kr_bit h (hm k hk).2, decide_eq_false (fun g => (hm i hi).2 g.1), Bool.false_or, decide_eq_false (fun g => hki (hinj i k hi hk g).symm), Bool.and_false]]
    rw [kr_bit h (hm i hi).2, decide_eq_false (fun g => (hm i hi).2 g.1), Bool.false_or, decide_eq_true rfl, Bool.and_true, hsb i hi, Bool.xor_self]
  have hlead : ∀ p, p ∈ S → (v ^^^ t).testBit p = false := fun p hp => by
    have h1 := hodd (σ p) (h.sp hp)
    rw [xs_one (k := p) (h.lt p hp) fun j hj hjp => by
      by_cases hjS : j ∈ S
      · rw [h.bit hp hjS, decide_eq_false hjp, Bool.false_and]
      · obtain ⟨i, hi, rfl⟩ := hall j hj hjS
        rw [hfree i hi, Bool.and_false]] at h1
    rw [h.bit hp hp, decide_eq_true rfl, Bool.true_and] at h1
    exact h1
  have hz : v ^^^ t = 0 := by
    apply Nat.eq_of_testBit_eq
    intro j
    rw [Nat.zero_testBit]
    by_cases hj : j < C
    · by_cases hjS : j ∈ S
      · exact hlead j hjS
      · obtain ⟨i, hi, rfl⟩ := hall j hj hjS
        exact hfree i hi
    · exact big_bit (Nat.xor_lt_two_pow hv htl) (by omega)
  exact (xor_eq_zero' hz).symm
theorem imr_none {K C y : Nat} {r : Nat → Nat} (h : ∀ i, i < K → odl y (el C (r i)) = false) : imr K C r y = 0 := by
  have e : (List.range K).filter (fun i => odl y (el C (r i))) = [] := by
    rw [List.filter_eq_nil_iff]
    intro i hi
    rw [h i (List.mem_range.1 hi)]
    exact Bool.false_ne_true
  unfold imr
  rw [e]
  rfl
/-- Sums of rows of the kernel are mapped to nothing. -/
theorem span_ker {K C : Nat} {r : Nat → Nat} {S : List Nat} {σ : Nat → Nat} (h : Can C (rows K r) S σ) (s : Nat) : imr K C r (sumr (fun i => kr S σ ((nl C S).getD i 0)) 0 (el (nl C S).length s)) = 0 := by
  refine sp_ind (M := rows (nl C S).length fun i => kr S σ ((nl C S).getD i 0)) (P := fun x => imr K C r x = 0) ?_ (fun a b ha hb => by rw [imr_add, ha, hb]; rfl) (fun y hy => ?_) (sumr_sp (fun i hi => rows_sp hi) _ 0 .zero fun i hi => (el_mem.1 hi).1)
  · exact imr_none fun i _ => by rw [odl_bit, xs_nil]
  · obtain ⟨i, hi, rfl⟩ := rows_mem.1 hy
    have hm : (nl C S).getD i 0 < C ∧ (nl C S).getD i 0 ∉ S := by
      rw [List.getD_eq_getElem?_getD, List.getElem?_eq_getElem hi]
      exact nl_mem.1 (List.getElem_mem _)
    exact imr_none fun j hj => kr_none h hm.1 hm.2 (Sp.row (rows_mem.2 ⟨j, hj, rfl⟩))
/-- A transpose applied to a vector: the sum of the rows that it names. -/
theorem imr_trr {N q s : Nat} {kk : Nat → Nat} (hk : ∀ i, i < q → kk i < 2 ^ N) : imr N q (trr q kk) s = sumr kk 0 (el q s) := by
  apply Nat.eq_of_testBit_eq
  intro i
  rw [imr_bit, sumr_bit]
  by_cases hi : i < N
  · rw [decide_eq_true hi, Bool.true_and]
    exact xs_congr fun j hj => by rw [trr_bit, decide_eq_true hj, Bool.true_and, Bool.and_comm]
  · rw [decide_eq_false hi, Bool.false_and, ← xs_false q]
    exact xs_congr fun j hj => by rw [big_bit (hk j hj) (by omega), Bool.and_false]
/-- A vector times a matrix is linear. -/
theorem lin_add (b : Nat → Nat) (N x y : Nat) : sumr b 0 (el N (x ^^^ y)) = sumr b 0 (el N x) ^^^ sumr b 0 (el N y) := by
  apply Nat.eq_of_testBit_eq
  intro k
  rw [Nat.testBit_xor, sumr_bit, sumr_bit, sumr_bit, ← xs_xor]
  exact xs_congr fun j _ => by
    rw [Nat.testBit_xor]
    cases x.testBit j <;> cases y.testBit j <;> cases (b j).testBit k <;> rfl
theorem lin_zero (b : Nat → Nat) (N : Nat) : sumr b 0 (el N 0) = 0 := by rw [el_zero]; rfl
theorem lin_sp {b : Nat → Nat} {N : Nat} {M M' : List Nat} (h : ∀ r, r ∈ M → Sp M' (sumr b 0 (el N r))) {x : Nat} (hx : Sp M x) : Sp M' (sumr b 0 (el N x)) :=
  sp_ind (P := fun x => Sp M' (sumr b 0 (el N x))) (by rw [lin_zero]; exact .zero) (fun u v hu hv => by rw [lin_add]; exact hu.sum hv) h hx
theorem lin_sum (b w : Nat → Nat) (N : Nat) : ∀ (l : List Nat) (x : Nat), sumr b 0 (el N (sumr w x l)) = sumr (fun i => sumr b 0 (el N (w i))) (sumr b 0 (el N x)) l
  | [], x => rfl
  | i :: l, x => by
    show sumr b 0 (el N (sumr w (x ^^^ w i) l)) = sumr (fun i => sumr b 0 (el N (w i))) (sumr b 0 (el N x) ^^^ sumr b 0 (el N (w i))) l
    rw [lin_sum b w N l, lin_add]
theorem sumr_congr {v w : Nat → Nat} : ∀ (l : List Nat) (x : Nat), (∀ i, i ∈ l → v i = w i) → sumr v x l = sumr w x l
  | [], _, _ => rfl
  | i :: l, x, h => by
    show sumr v (x ^^^ v i) l = sumr w (x ^^^ w i) l
    rw [h i List.mem_cons_self]
    exact sumr_congr l _ fun j hj => h j (List.mem_cons_of_mem _ hj)
/-- The rank of a product. -/
theorem rank_mul {K N P : Nat} {a b : Nat → Nat} (ha : ∀ i, i < K → a i < 2 ^ N) (hb : ∀ j, j < N → b j < 2 ^ P) {S T U : List Nat} {σ τ υ : Nat → Nat} (h : Can N (rows K a) S σ) (k : Can P (rows N b) T τ) (u : Can P (rows K (mulr N a b)) U υ) : U.length ≤ S.length ∧ U.length ≤ T.length ∧ S.length + T.length ≤ U.length + N := by
  have hrow : ∀ x, x ∈ rows K (mulr N a b) → ∃ i, i < K ∧ sumr b 0 (el N (a i)) = x := fun x hx => rows_mem.1 hx
  refine ⟨?_, ?_, ?_⟩
  · refine dim_le (u := fun i => υ (U.getD i 0)) (v := fun i => sumr b 0 (el N (σ (S.getD i 0)))) (q := fun j => U.getD j 0) (fun i hi => ?_) fun i j hi hj => u.dual i j hi hj
    refine (u.sp (u.getD_mem hi)).mono fun x hx => ?_
    obtain ⟨j, hj, rfl⟩ := hrow x hx
    have h1 : Sp (S.map σ) (a j) := (h.eqs.sp).1 (rows_sp hj)
    rw [Can.rows_eq] at h1
    exact lin_sp (fun y hy => by
      obtain ⟨i, hi, rfl⟩ := rows_mem.1 hy
      exact rows_sp (ρ := fun i => sumr b 0 (el N (σ (S.getD i 0)))) hi) h1
  · refine dim_le (u := fun i => υ (U.getD i 0)) (v := fun i => τ (T.getD i 0)) (q := fun j => U.getD j 0) (fun i hi => ?_) fun i j hi hj => u.dual i j hi hj
    refine (u.sp (u.getD_mem hi)).mono fun x hx => ?_
    obtain ⟨j, hj, rfl⟩ := hrow x hx
    have h1 : Sp (rows N b) (sumr b 0 (el N (a j))) := sumr_sp (fun i hi => rows_sp hi) _ 0 .zero fun i hi => (el_mem.1 hi).1
    have h2 := (k.eqs.sp).1 h1
    rwa [Can.rows_eq] at h2
  · have ht : ∀ i, i < P → trr N b i < 2 ^ N := fun i _ => trr_lt N b i
    obtain ⟨V, ν, v⟩ := can_of ht
    have e1 := rank_eq hb k v
    have e2 := nl_len v.asc v.lt
    obtain ⟨kk, hkk⟩ : ∃ kk : Nat → Nat, (fun i => kr V ν ((nl N V).getD i 0)) = kk := ⟨_, rfl⟩
    have hpre : ∀ x, Sp (rows K (mulr N a b)) x → ∃ w, Sp (rows K a) w ∧ sumr b 0 (el N w) = x := fun x hx =>
      sp_ind (P := fun x => ∃ w, Sp (rows K a) w ∧ sumr b 0 (el N w) = x) ⟨0, .zero, lin_zero b N⟩ (fun p q ⟨w, h1, h2⟩ ⟨w', h3, h4⟩ => ⟨w ^^^ w', h1.sum h3, by rw [lin_add, h2, h4]⟩) (fun y hy => by
        obtain ⟨i, hi, rfl⟩ := hrow y hy
        exact ⟨a i, rows_sp hi, rfl⟩) hx
    have hw : ∀ i, ∃ w, i < U.length → Sp (rows K a) w ∧ sumr b 0 (el N w) = υ (U.getD i 0) := fun i => by
      by_cases hi : i < U.length
      · obtain ⟨w, h1, h2⟩ := hpre _ (u.sp (u.getD_mem hi))
        exact ⟨w, fun _ => ⟨h1, h2⟩⟩
      · exact ⟨0, fun g => absurd g hi⟩
    obtain ⟨w, hw⟩ := Classical.axiomOfChoice hw
    have hal : ∀ x, Sp (rows K a) x → x < 2 ^ N := fun x hx => sp_lt (fun r hr => by
      obtain ⟨i, hi, rfl⟩ := rows_mem.1 hr
      exact ha i hi) hx
    have hmain := dim_le (n := U.length + (nl N V).length) (n' := S.length) (u := fun i => σ (S.getD i 0)) (v := fun i => if i < U.length then w i else kk (i - U.length)) (q := fun j => S.getD j 0) (fun i hi => ?_) fun i j hi hj => h.dual i j hi hj
    · omega
    · obtain ⟨x, hx⟩ : ∃ x, σ (S.getD i 0) = x := ⟨_, rfl⟩
      have hxs : Sp (rows K a) x := by rw [← hx]; exact h.sp (h.getD_mem hi)
      simp only [hx]
      have h1 : Sp (rows K (mulr N a b)) (sumr b 0 (el N x)) := lin_sp (fun y hy => by
        obtain ⟨i, hi, rfl⟩ := rows_mem.1 hy
        exact rows_sp (ρ := mulr N a b) hi) hxs
      have h2 := (u.eqs.sp).1 h1
      rw [Can.rows_eq] at h2
      obtain ⟨m, hm, hme⟩ := sp_mask h2
      obtain ⟨y, hy⟩ : ∃ y, sumr w 0 (el U.length m) = y := ⟨_, rfl⟩
      have hys : Sp (rows K a) y := by
        rw [← hy]
        exact sumr_sp (fun i hi => (hw i hi).1) _ 0 .zero fun i hi => (el_mem.1 hi).1
      have hye : sumr b 0 (el N y) = sumr b 0 (el N x) := by
        rw [← hy, lin_sum, lin_zero, ← hme]
        exact sumr_congr _ _ fun i hi => (hw i (el_mem.1 hi).1).2
      have hd : x ^^^ y < 2 ^ N := Nat.xor_lt_two_pow (hal x hxs) (hal y hys)
      have hd0 : imr P N (trr N b) (x ^^^ y) = 0 := by
        rw [imr_trr hb, lin_add, hye, Nat.xor_self]
      obtain ⟨s, hs, hse⟩ := ker_span v hd hd0
      have hA : ∀ i, i < U.length → Sp (rows (U.length + (nl N V).length) fun i => if i < U.length then w i else kk (i - U.length)) (w i) := fun i hi => by
        have := rows_sp (ρ := fun i => if i < U.length then w i else kk (i - U.length)) (K := U.length + (nl N V).length) (i := i) (by omega)
        simp only [if_pos hi] at this
        exact this
      have hB : ∀ i, i < (nl N V).length → Sp (rows (U.length + (nl N V).length) fun i => if i < U.length then w i else kk (i - U.length)) (kk i) := fun i hi => by
        have := rows_sp (ρ := fun i => if i < U.length then w i else kk (i - U.length)) (K := U.length + (nl N V).length) (i := U.length + i) (by omega)
        simp only [if_neg (show ¬ U.length + i < U.length by omega), Nat.add_sub_cancel_left] at this
        exact this
      rw [hkk] at hse
      have h5 := sumr_sp hB (el (nl N V).length s) 0 .zero fun i hi => (el_mem.1 hi).1
      rw [hse] at h5
      have h6 := sumr_sp hA (el U.length m) 0 .zero fun i hi => (el_mem.1 hi).1
      rw [hy] at h6
      have h7 := h5.sum h6
      rwa [xor_cancel] at h7

end Go.Proofs.YtdobhdhgmbmhfaaDoor
