/- The group that permutations generate: closed, with inverses; its size divides the number of all permutations. -/
import Derived.Test.YtgppdbiimlbpjaaDoorRxL
import Derived.WalkKit
import Derived.WalkSpells
import Derived.WalkLawsBesides
import Derived.Handy
import Derived.Deep.QuietTactic
import Derived.BigQuiet
import Derived.Outline
import Derived.Laws.BitsAllLaws
import Derived.IntWalk
import Derived.Lib.SmallJoins
import Derived.Lib.Hide
import Derived.Deep.DeepCutAuto
import Derived.LoopTactic
import Derived.Deep.RegionWith
import Derived.Laws.CopyOwn
import Derived.Maps.OwnOps
import Derived.Maps.OwnSet
import Derived.Laws.OwnMore
import Derived.Maps.AppendAt
import Derived.Test.YtgppdbiimlbpjaaDoorShelF
import Derived.RangeFuncNested
import Derived.RangeFuncBound
import Derived.RangeFuncCalls
import Derived.RangeFuncLeaves
import Derived.RangeFuncBox
import Derived.RangeFuncFrom
import Derived.Shelf.Abstract
import Derived.Shelf.RegionOpen
import Derived.OwnWalkIn
import Derived.TacticsInMore
import Derived.LoopNIn
import Derived.LoopIn
namespace Go.Proofs.YtgppdbiimlbpjaaDoor
set_option linter.unusedVariables false
set_option linter.unusedSimpArgs false
open Go.RowKit


theorem ext_n {n : Nat} {l m : List Nat} (h1 : l.length = n) (h2 : m.length = n) (h : ∀ i, i < n → fun_ l i = fun_ m i) : l = m := by
  apply List.ext_getElem (by omega)
  intro i hi hi'
  have := h i (by omega)
  unfold fun_ at this
  rw [List.getD_eq_getElem?_getD, List.getD_eq_getElem?_getD, List.getElem?_eq_getElem hi, List.getElem?_eq_getElem hi'] at this
  exact this
theorem getD_in {L : List (List Nat)} {c : Nat} (h : c < L.length) : L.getD c [] ∈ L := by
  rw [List.getD_eq_getElem?_getD, List.getElem?_eq_getElem h]
  exact List.getElem_mem _
theorem cmp2_len (l m : List Nat) : (cmp2 l m).length = m.length := by simp [cmp2]
theorem lo_len (n : Nat) (a : Nat → Nat) : (lo n a).length = n := by simp [lo]
section
variable {n : Nat} (h1 : 1 ≤ n) (h5 : n ≤ 5)
include h1 h5
theorem cmp2_assoc {a b c : List Nat} (hb : b ∈ pl n) (hc : c ∈ pl n) : cmp2 (cmp2 a b) c = cmp2 a (cmp2 b c) := by
  obtain ⟨lb, gb⟩ := pl_good h1 h5 hb
  obtain ⟨lc, gc⟩ := pl_good h1 h5 hc
  refine ext_n (n := n) (by rw [cmp2_len, lc]) (by rw [cmp2_len, cmp2_len, lc]) fun i hi => ?_
  have h2 := gc.perm.lt i hi
  rw [cmp2_at (by omega), cmp2_at (by omega), cmp2_at (by rw [cmp2_len]; omega), cmp2_at (by omega)]
theorem cmp2_one {a : List Nat} (ha : a ∈ pl n) : cmp2 a (lo n fun i => i) = a := by
  obtain ⟨la, ga⟩ := pl_good h1 h5 ha
  refine ext_n (n := n) (by rw [cmp2_len, lo_len]) la fun i hi => ?_
  rw [cmp2_at (by rw [lo_len]; omega), lo_at hi]
theorem one_cmp2 {a : List Nat} (ha : a ∈ pl n) : cmp2 (lo n fun i => i) a = a := by
  obtain ⟨la, ga⟩ := pl_good h1 h5 ha
  refine ext_n (n := n) (by rw [cmp2_len, la]) la fun i hi => ?_
  rw [cmp2_at (by omega), lo_at (ga.perm.lt i hi)]
theorem one_mem : lo n (fun i => i) ∈ pl n := lo_mem ⟨h1, h5, fun p hp => hp, fun p q _ _ e => e⟩
/-- The inverse, as a list. -/
theorem inv_mem {a : List Nat} (ha : a ∈ pl n) : lo n (bk n (fun_ a)) ∈ pl n := by
  have hbk := bk_of h5 ha
  exact lo_mem ⟨h1, h5, fun i hi => (hbk i hi).2.1, fun i j hi hj e => by rw [← (hbk i hi).2.2.2, ← (hbk j hj).2.2.2, e]⟩
omit h1 in
theorem cmp2_inv {a : List Nat} (ha : a ∈ pl n) : cmp2 a (lo n (bk n (fun_ a))) = lo n fun i => i := by
  have hbk := bk_of h5 ha
  refine ext_n (n := n) (by rw [cmp2_len, lo_len]) (lo_len _ _) fun i hi => ?_
  rw [cmp2_at (by rw [lo_len]; omega), lo_at hi, lo_at hi, (hbk i hi).2.2.2]
theorem inv_cmp2 {a : List Nat} (ha : a ∈ pl n) : cmp2 (lo n (bk n (fun_ a))) a = lo n fun i => i := by
  have hbk := bk_of h5 ha
  obtain ⟨la, ga⟩ := pl_good h1 h5 ha
  refine ext_n (n := n) (by rw [cmp2_len, la]) (lo_len _ _) fun i hi => ?_
  rw [cmp2_at (by omega), lo_at (ga.perm.lt i hi), lo_at hi, (hbk i hi).2.2.1]
end
/-- A group of permutations. -/
structure Cl (n : Nat) (G : List (List Nat)) : Prop where
  gs : Gs n G
  one : lo n (fun i => i) ∈ G
  mul : ∀ a, a ∈ G → ∀ b, b ∈ G → cmp2 a b ∈ G
  inv : ∀ a, a ∈ G → lo n (bk n (fun_ a)) ∈ G
theorem Cl.cosets {n : Nat} (h1 : 1 ≤ n) (h5 : n ≤ 5) {G : List (List Nat)} (h : Cl n G) : ∀ (m : Nat) (R : List (List Nat)), R.length ≤ m → R.Nodup → (∀ x, x ∈ R → x ∈ pl n) → (∀ x, x ∈ R → ∀ g, g ∈ G → cmp2 x g ∈ R) → G.length ∣ R.length := by
  intro m
  induction m with
  | zero =>
    intro R hm _ _ _
    have : R.length = 0 := by omega
    rw [this]
    exact Nat.dvd_zero _
  | succ m ih =>
    intro R hm hnd hpl hcl
    cases R with
    | nil => exact Nat.dvd_zero _
    | cons x T =>
      obtain ⟨R, hR⟩ : ∃ R, x :: T = R := ⟨_, rfl⟩
      have hx : x ∈ R := by rw [← hR]; exact List.mem_cons_self
      rw [hR] at hm hnd hpl hcl ⊢
      clear hR
      have hxp := hpl x hx
      have hinj : ∀ g, g ∈ G → ∀ g', g' ∈ G → cmp2 x g = cmp2 x g' → g = g' := fun g hg g' hg' e => by
        have hgp := h.gs.mem g hg
        have hgp' := h.gs.mem g' hg'
        have := congrArg (cmp2 (lo n (bk n (fun_ x)))) e
        rw [← cmp2_assoc h1 h5 hxp hgp, ← cmp2_assoc h1 h5 hxp hgp', inv_cmp2 h1 h5 hxp, one_cmp2 h1 h5 hgp, one_cmp2 h1 h5 hgp'] at this
        exact this
      have hCn : (G.map (cmp2 x)).Nodup := by
        have := h.gs.nodup
        unfold List.Nodup at this ⊢
        rw [List.pairwise_map]
        exact List.Pairwise.imp_of_mem (fun {a b} ha hb hne e => hne (hinj a ha b hb e)) this
      have hCR : ∀ y, y ∈ G.map (cmp2 x) → y ∈ R := fun y hy => by
        obtain ⟨g, hg, rfl⟩ := List.mem_map.1 hy
        exact hcl x hx g hg
      have hsub : (R.filter fun y => decide (y ∈ G.map (cmp2 x))).length = (G.map (cmp2 x)).length := by
        refine List.Perm.length_eq ((List.perm_ext_iff_of_nodup (hnd.filter _) hCn).2 fun y => ?_)
        rw [List.mem_filter]
        exact ⟨fun hy => of_decide_eq_true hy.2, fun hy => ⟨hCR y hy, decide_eq_true hy⟩⟩
      have hsplit : R.length = (R.filter fun y => decide (y ∈ G.map (cmp2 x))).length + (R.filter fun y => !decide (y ∈ G.map (cmp2 x))).length := by
        have := List.length_eq_countP_add_countP (fun y => decide (y ∈ G.map (cmp2 x))) (l := R)
        rw [List.countP_eq_length_filter, List.countP_eq_length_filter] at this
        rw [this]
        congr 2
        apply List.filter_congr
        intro y _
        generalize decide (y ∈ G.map (cmp2 x)) = q
        cases q <;> rfl
      have hG0 : 0 < G.length := List.length_pos_of_mem h.one
      have hml : (G.map (cmp2 x)).length = G.length := List.length_map _
      have ih2 := ih (R.filter fun y => !decide (y ∈ G.map (cmp2 x))) (by omega) (hnd.filter _) (fun y hy => hpl y (List.mem_filter.1 hy).1) (fun y hy g hg => by
        obtain ⟨hy1, hy2⟩ := List.mem_filter.1 hy
        refine List.mem_filter.2 ⟨hcl y hy1 g hg, ?_⟩
        have hyC : y ∉ G.map (cmp2 x) := by simpa using hy2
        have : cmp2 y g ∉ G.map (cmp2 x) := fun hc => hyC (by
          obtain ⟨k, hk, e⟩ := List.mem_map.1 hc
          have hgp := h.gs.mem g hg
          have hip := inv_mem h1 h5 hgp
          have e2 := congrArg (fun z => cmp2 z (lo n (bk n (fun_ g)))) e
          rw [cmp2_assoc h1 h5 (h.gs.mem k hk) hip, cmp2_assoc h1 h5 hgp hip, cmp2_inv h5 hgp, cmp2_one h1 h5 (hpl y hy1)] at e2
          exact List.mem_map.2 ⟨_, h.mul k hk _ (h.inv g hg), e2⟩)
        simpa using this)
      rw [hsplit, hsub, hml]
      exact Nat.dvd_add (Nat.dvd_refl _) ih2
theorem Cl.divides {n : Nat} (h1 : 1 ≤ n) (h5 : n ≤ 5) {G : List (List Nat)} (h : Cl n G) : (pl n).length % G.length = 0 :=
  Nat.mod_eq_zero_of_dvd (h.cosets h1 h5 _ (pl n) (Nat.le_refl _) (pl_nodup ⟨n, by omega⟩).1 (fun _ hx => hx) (fun x hx g hg => cmp2_mem h1 h5 hx (h.gs.mem g hg)))
/-- Products of generators. -/
inductive Wd (n : Nat) (S : Nat → List Nat) (K : Nat) : List Nat → Prop
  | one : Wd n S K (lo n fun i => i)
  | step (k : Nat) (x : List Nat) : k < K → Wd n S K x → Wd n S K (cmp2 (S k) x)
section
variable {n : Nat} (h1 : 1 ≤ n) (h5 : n ≤ 5) {S : Nat → List Nat} {K : Nat} (hS : ∀ k, k < K → S k ∈ pl n)
include h1 h5 hS
theorem Wd.mem {x : List Nat} (h : Wd n S K x) : x ∈ pl n := by
  induction h with
  | one => exact one_mem h1 h5
  | step k x hk _ ih => exact cmp2_mem h1 h5 (hS k hk) ih
theorem Wd.mul {x y : List Nat} (hx : Wd n S K x) (hy : Wd n S K y) : Wd n S K (cmp2 x y) := by
  have hyp := hy.mem h1 h5 hS
  induction hx with
  | one => rw [one_cmp2 h1 h5 hyp]; exact hy
  | step k x hk hx ih => rw [cmp2_assoc h1 h5 (hx.mem h1 h5 hS) hyp]; exact .step k _ hk ih
omit h1 h5 hS in
theorem gin_wd {x : List Nat} (hx : Wd n S K x) {G : List (List Nat)} (hG : ∀ y, y ∈ G → Wd n S K y) : ∀ k, k ≤ K → (∀ y, y ∈ gin S x G k → Wd n S K y) ∧ (∀ j, j < k → cmp2 (S j) x ∈ gin S x G k)
  | 0, _ => ⟨hG, fun j hj => absurd hj (Nat.not_lt_zero _)⟩
  | k + 1, hk => by
    obtain ⟨i1, i2⟩ := gin_wd hx hG k (by omega)
    have e : gin S x G (k + 1) = gstep (cmp2 (S k) x) (gin S x G k) := rfl
    rw [e]
    unfold gstep
    by_cases hin : cmp2 (S k) x ∈ gin S x G k
    · rw [if_pos hin]
      refine ⟨i1, fun j hj => ?_⟩
      by_cases ej : j = k
      · rw [ej]; exact hin
      · exact i2 j (by omega)
    · rw [if_neg hin]
      refine ⟨fun y hy => ?_, fun j hj => ?_⟩
      · rcases List.mem_append.1 hy with h | h
        · exact i1 y h
        · rw [List.mem_singleton] at h
          rw [h]
          exact .step k x (by omega) hx
      · by_cases ej : j = k
        · rw [ej]; exact List.mem_append.2 (.inr (by simp))
        · exact List.mem_append.2 (.inl (i2 j (by omega)))
theorem gl_wd : ∀ (f i : Nat) (G : List (List Nat)), 200 ≤ f + i → Gs n G → i ≤ G.length → (∀ y, y ∈ G → Wd n S K y) → (∀ d, d < i → ∀ k, k < K → cmp2 (S k) (G.getD d []) ∈ G) → lo n (fun i => i) ∈ G →
    (∀ y, y ∈ gl S K f i G → Wd n S K y) ∧ (∀ y, y ∈ gl S K f i G → ∀ k, k < K → cmp2 (S k) y ∈ gl S K f i G) ∧ lo n (fun i => i) ∈ gl S K f i G
  | 0, i, G, hf, hg, hi, _, _, _ => by have := hg.len h5; omega
  | f + 1, i, G, hf, hg, hi, hw, hd, ho => by
    by_cases hlt : i < G.length
    · have e : gl S K (f + 1) i G = gl S K f (i + 1) (gin S (G.getD i []) G K) := by
        show (if i < G.length then _ else _) = _
        rw [if_pos hlt]
      rw [e]
      have hxm : G.getD i [] ∈ G := by rw [List.getD_eq_getElem?_getD, List.getElem?_eq_getElem hlt]; exact List.getElem_mem _
      obtain ⟨w1, w2⟩ := gin_wd (hw _ hxm) hw K (Nat.le_refl _)
      obtain ⟨k1, k2⟩ := gin_keep S (G.getD i []) G K
      have hsub : ∀ y, y ∈ G → y ∈ gin S (G.getD i []) G K := fun y hy => by
        obtain ⟨c, hc, e⟩ := List.mem_iff_getElem.1 hy
        have e3 : G.getD c [] = y := by rw [List.getD_eq_getElem?_getD, List.getElem?_eq_getElem hc]; exact e
        rw [← e3, ← k2 c hc]
        exact getD_in (by omega)
      refine gl_wd f (i + 1) _ (by omega) (hg.gin h1 h5 hS (hg.at_ hlt) K (Nat.le_refl _)) (by omega) w1 (fun d hdl k hk => ?_) (hsub _ ho)
      by_cases ed : d = i
      · subst ed
        rw [k2 d hlt]
        exact w2 k hk
      · rw [k2 d (by omega)]
        exact hsub _ (hd d (by omega) k hk)
    · have e : gl S K (f + 1) i G = G := by
        show (if i < G.length then _ else _) = _
        rw [if_neg hlt]
      rw [e]
      refine ⟨hw, fun y hy k hk => ?_, ho⟩
      obtain ⟨c, hc, e⟩ := List.mem_iff_getElem.1 hy
      have := hd c (by omega) k hk
      rw [List.getD_eq_getElem?_getD, List.getElem?_eq_getElem hc] at this
      rw [← e]
      exact this
theorem grp_wd : (∀ y, y ∈ grp n S K → Wd n S K y) ∧ (∀ y, y ∈ grp n S K → ∀ k, k < K → cmp2 (S k) y ∈ grp n S K) ∧ lo n (fun i => i) ∈ grp n S K :=
  gl_wd h1 h5 hS 200 0 _ (by omega) ⟨by simp, fun l hl => by simp at hl; subst hl; exact one_mem h1 h5⟩ (by omega) (fun y hy => by simp at hy; subst hy; exact .one) (fun d hd => absurd hd (Nat.not_lt_zero _)) (by simp)
theorem grp_iff {x : List Nat} : x ∈ grp n S K ↔ Wd n S K x := by
  obtain ⟨g1, g2, g3⟩ := grp_wd h1 h5 hS
  refine ⟨g1 x, fun h => ?_⟩
  induction h with
  | one => exact g3
  | step k x hk _ ih => exact g2 _ ih k hk
theorem grp_pow {x : List Nat} (hx : x ∈ grp n S K) : ∀ j, lo n (itr (fun_ x) j) ∈ grp n S K
  | 0 => (grp_wd h1 h5 hS).2.2
  | j + 1 => by
    have hxp := ((grp_iff h1 h5 hS).1 hx).mem h1 h5 hS
    have ih := grp_pow hx j
    have hg := (pl_good h1 h5 hxp).2
    have e : lo n (itr (fun_ x) (j + 1)) = cmp2 x (lo n (itr (fun_ x) j)) := by
      refine ext_n (n := n) (lo_len _ _) (by rw [cmp2_len, lo_len]) fun i hi => ?_
      rw [cmp2_at (by rw [lo_len]; omega), lo_at hi, lo_at hi]
      rfl
    rw [e]
    exact (grp_iff h1 h5 hS).2 (((grp_iff h1 h5 hS).1 hx).mul h1 h5 hS ((grp_iff h1 h5 hS).1 ih))
theorem grp_cl : Cl n (grp n S K) := by
  refine ⟨gs_grp h1 h5 hS, (grp_wd h1 h5 hS).2.2, fun a ha b hb => (grp_iff h1 h5 hS).2 (((grp_iff h1 h5 hS).1 ha).mul h1 h5 hS ((grp_iff h1 h5 hS).1 hb)), fun a ha => ?_⟩
  have hap := ((grp_iff h1 h5 hS).1 ha).mem h1 h5 hS
  have hg := (pl_good h1 h5 hap).2
  have hof : (1 ≤ ordl n (fun_ a) ∧ ordl n (fun_ a) ≤ 6) ∧ idb n (fun_ a) (ordl n (fun_ a)) = true ∧ ∀ j, j < ordl n (fun_ a) → 1 ≤ j → idb n (fun_ a) j = false := ord_fin ⟨n, by omega⟩ _ hap
  obtain ⟨k, hk⟩ : ∃ k, ordl n (fun_ a) = k + 1 := ⟨ordl n (fun_ a) - 1, by omega⟩
  rw [hk] at hof
  have hid := idb_iff.1 hof.2.1
  have hbk := bk_of h5 hap
  have e : lo n (bk n (fun_ a)) = lo n (itr (fun_ a) k) := by
    refine ext_n (n := n) (lo_len _ _) (lo_len _ _) fun i hi => ?_
    rw [lo_at hi, lo_at hi]
    have h2 : fun_ a (itr (fun_ a) k i) = i := hid i hi
    refine hg.perm.inj _ _ (hbk i hi).2.1 (itr_lt hg.perm.lt k i hi) ?_
    rw [(hbk i hi).2.2.2, h2]
  rw [e]
  exact grp_pow h1 h5 hS ha k
theorem gen_in_grp {k : Nat} (hk : k < K) : S k ∈ grp n S K := by
  have h := (grp_wd h1 h5 hS).2.1 _ (grp_wd h1 h5 hS).2.2 k hk
  rwa [cmp2_one h1 h5 (hS k hk)] at h
end
/-- Neighbors among all permutations that G holds ascend. -/
theorem inAll_asc {n : Nat} (h1 : 1 ≤ n) (h5 : n ≤ 5) (G : List (List Nat)) {i : Nat} (hi : i + 1 < (inAll n G).length) : cmpl (zf (fun_ ((inAll n G).getD i []))) (zf (fun_ ((inAll n G).getD (i + 1) []))) n 0 < 0 := by
  have hs : (inAll n G).Pairwise (fun a b => nl n a < nl n b) := (pl_sorted ⟨n, by omega⟩).filter _
  have hm : ∀ c, c < (inAll n G).length → (inAll n G).getD c [] ∈ pl n := fun c hc => by
    rw [List.getD_eq_getElem?_getD, List.getElem?_eq_getElem hc]
    exact (List.mem_filter.1 (List.getElem_mem hc)).1
  refine (cmpl_num (pl_small h1 h5 (hm i (by omega))) (pl_small h1 h5 (hm (i + 1) hi)) n 0).2 ?_
  have := List.pairwise_iff_getElem.1 hs i (i + 1) (by omega) hi (by omega)
  rw [List.getD_eq_getElem?_getD, List.getD_eq_getElem?_getD, List.getElem?_eq_getElem (by omega), List.getElem?_eq_getElem hi]
  exact this

end Go.Proofs.YtgppdbiimlbpjaaDoor
