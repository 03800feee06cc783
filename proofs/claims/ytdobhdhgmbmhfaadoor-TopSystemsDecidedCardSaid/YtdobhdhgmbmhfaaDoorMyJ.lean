/- The kernel: the specification's Null and Kernel. -/
import Derived.Test.YtdobhdhgmbmhfaaDoorMxV
import Derived.Test.YtdobhdhgmbmhfaaDoorMyH
import Derived.WalkKit
import Derived.WalkSpells
import Derived.WalkLawsBesides
import Derived.Handy
import Derived.Deep.QuietTactic
import Derived.BigQuiet
import Derived.Outline
import Derived.Laws.BitsAllLaws
import Derived.IntWalk
import Derived.Lib.SmallJoins
import Derived.Lib.Hide
import Derived.Deep.DeepCutAuto
import Derived.LoopTactic
import Derived.Deep.RegionWith
import Derived.Laws.CopyOwn
import Derived.Maps.OwnOps
import Derived.Maps.OwnSet
import Derived.Laws.OwnMore
import Derived.Maps.AppendAt
import Derived.RangeFuncNested
import Derived.RangeFuncBound
import Derived.RangeFuncCalls
import Derived.RangeFuncLeaves
import Derived.RangeFuncBox
import Derived.RangeFuncFrom
import Derived.Shelf.Abstract
import Derived.Shelf.RegionOpen
import Derived.OwnWalkIn
import Derived.TacticsInMore
import Derived.LoopNIn
import Derived.LoopIn
import Derived.Deep.RegionHeld3
import Derived.RegionTactic
import Derived.ChangeAlike
namespace Go.Proofs.YtdobhdhgmbmhfaaDoor
set_option linter.unusedVariables false
set_option linter.unusedSimpArgs false
open Go.RowKit


theorem lz_one (p : Nat) (W : World) : Lz (W.alloc (.cells #[.int .i64 (p : Int)] 3)) (some ⟨W.heap.size, 0, none⟩) [p].length (lz [p]) := (lz_lit [(p : Int)] W 3).congr fun i hi => by
  have : i = 0 := by simp at hi; omega
  subst this; rfl
theorem el_first {C x p : Nat} (h : Ld x p) (hp : p < C) : (el C x).getD 0 0 = p ∧ 0 < (el C x).length := by
  have hm : p ∈ el C x := el_mem.2 ⟨hp, h.at_⟩
  have hpos : 0 < (el C x).length := List.length_pos_of_mem hm
  refine ⟨?_, hpos⟩
  rw [List.getD_eq_getElem?_getD, List.getElem?_eq_getElem hpos]
  obtain ⟨j, hj, e⟩ := List.mem_iff_getElem.1 hm
  show (el C x)[0] = p
  have h0 := (el_mem.1 (List.getElem_mem hpos)).2
  have h1 : p ≤ (el C x)[0] := by
    rcases Nat.lt_or_ge (el C x)[0] p with g | g
    · have := h.low _ g; rw [h0] at this; cases this
    · exact g
  by_cases g : j = 0
  · subst g; exact e
  · have := List.pairwise_iff_getElem.1 (el_asc C x) 0 j hpos hj (by omega)
    omega
theorem nl_succ (c : Nat) (T : List Nat) : nl (c + 1) T = if c ∈ T then nl c T else nl c T ++ [c] := by
  unfold nl
  rw [List.range_succ, List.filter_append]
  by_cases h : c ∈ T
  · rw [if_pos h, List.filter_cons_of_neg (by simpa using h)]; simp
  · rw [if_neg h, List.filter_cons_of_pos (by simpa using h)]; simp
theorem nl_pre (T : List Nat) (c : Nat) : ∀ d, ∃ l, nl (c + d) T = nl c T ++ l
  | 0 => ⟨[], by simp⟩
  | d + 1 => by
    obtain ⟨l, hl⟩ := nl_pre T c d
    show ∃ l, nl (c + d + 1) T = _
    rw [nl_succ]
    by_cases h : c + d ∈ T
    · rw [if_pos h]; exact ⟨l, hl⟩
    · rw [if_neg h]; exact ⟨l ++ [c + d], by rw [hl, List.append_assoc]⟩
theorem nl_at {T : List Nat} {c C : Nat} (hc : c < C) (hn : c ∉ T) : (nl C T).getD (nl c T).length 0 = c ∧ (nl c T).length < (nl C T).length := by
  obtain ⟨l, hl⟩ := nl_pre T (c + 1) (C - (c + 1))
  have e : c + 1 + (C - (c + 1)) = C := by omega
  rw [e, nl_succ, if_neg hn] at hl
  rw [hl]
  constructor
  · rw [List.getD_eq_getElem?_getD, List.append_assoc, List.getElem?_append_right (Nat.le_refl _), Nat.sub_self]; rfl
  · simp
theorem nl_len_le (T : List Nat) (c : Nat) : (nl c T).length ≤ c := by
  unfold nl
  exact Nat.le_trans (List.length_filter_le _ _) (by simp)
/-- The row of the kernel under way. -/
def krx (T : List Nat) (τ : Nat → Nat) (c i : Nat) : Nat := flips (2 ^ c) ((T.take i).filter fun p => (τ p).testBit c)
theorem krx_zero (T : List Nat) (τ : Nat → Nat) (c : Nat) : krx T τ c 0 = 2 ^ c := rfl
theorem krx_step {T : List Nat} (τ : Nat → Nat) (c : Nat) {i : Nat} (hi : i < T.length) : krx T τ c (i + 1) = if (τ (T.getD i 0)).testBit c then krx T τ c i ^^^ 2 ^ (T.getD i 0) else krx T τ c i := by
  unfold krx
  rw [take_snoc hi, List.filter_append]
  by_cases h : (τ (T.getD i 0)).testBit c = true
  · rw [if_pos h, List.filter_cons_of_pos (p := fun p => (τ p).testBit c) h, List.filter_nil, flips_snoc]
  · rw [if_neg h, List.filter_cons_of_neg (p := fun p => (τ p).testBit c) h, List.filter_nil, List.append_nil]
theorem krx_end {C : Nat} {M T : List Nat} {τ : Nat → Nat} (h : Can C M T τ) {c : Nat} (hn : c ∉ T) : krx T τ c T.length = kr T τ c := by
  unfold krx
  rw [List.take_length]
  apply Nat.eq_of_testBit_eq
  intro q
  rw [flips_bit _ _ _ (h.nd.filter _), kr_bit h hn, Nat.testBit_two_pow]
  have e : decide (q ∈ T.filter fun p => (τ p).testBit c) = decide (q ∈ T ∧ (τ q).testBit c = true) := decide_eq_decide.2 List.mem_filter
  rw [e]
  by_cases g : c = q
  · subst g
    have : ¬ (c ∈ T ∧ (τ c).testBit c = true) := fun g => hn g.1
    rw [decide_eq_false this]
    simp
  · rw [decide_eq_false g, decide_eq_false (fun e => g (Eq.symm e)), Bool.false_xor, Bool.or_false]
theorem el_one {C p : Nat} (hp : p < C) : el C (2 ^ p) = [p] := by
  refine asc_ext (el_asc _ _) (by simp) fun i => ?_
  rw [el_mem, Nat.testBit_two_pow, decide_eq_true_iff, List.mem_singleton]
  exact ⟨fun h => h.2.symm, fun h => by subst h; exact ⟨hp, rfl⟩⟩
theorem ldc_can {C : Nat} {M T : List Nat} {τ : Nat → Nat} (h : Can C M T τ) (c : Nat) : ldc C (fun i => τ (T.getD i 0)) T.length c = decide (c ∈ T) := by
  unfold ldc
  refine decide_eq_decide.2 ⟨fun ⟨i, hi, e⟩ => ?_, fun hc => ?_⟩
  · rw [(el_first (h.ld (h.getD_mem hi)) (h.lt _ (h.getD_mem hi))).1] at e
    rw [← e]; exact h.getD_mem hi
  · obtain ⟨i, hi, rfl⟩ := List.mem_iff_getElem.1 hc
    refine ⟨i, hi, ?_⟩
    have e : T.getD i 0 = T[i] := by rw [List.getD_eq_getElem?_getD, List.getElem?_eq_getElem hi]; rfl
    show (el C (τ (T.getD i 0))).getD 0 0 = T[i]
    rw [e]
    exact (el_first (h.ld hc) (h.lt _ hc)).1
end Go.Proofs.YtdobhdhgmbmhfaaDoor
