/- Sets and vectors of compositions in plain numbers; the number of elements of a set. -/
import Derived.Test.YtgppdbiimlbpjaaDoorRxN
import Derived.WalkKit
import Derived.WalkSpells
import Derived.WalkLawsBesides
import Derived.Handy
import Derived.Deep.QuietTactic
import Derived.BigQuiet
import Derived.Outline
import Derived.Laws.BitsAllLaws
import Derived.IntWalk
import Derived.Lib.SmallJoins
import Derived.Lib.Hide
import Derived.Deep.DeepCutAuto
import Derived.LoopTactic
import Derived.Deep.RegionWith
import Derived.Laws.CopyOwn
import Derived.Maps.OwnOps
import Derived.Maps.OwnSet
import Derived.Laws.OwnMore
import Derived.Maps.AppendAt
import Derived.Test.YtgppdbiimlbpjaaDoorShelF
import Derived.RangeFuncNested
import Derived.RangeFuncBound
import Derived.RangeFuncCalls
import Derived.RangeFuncLeaves
import Derived.RangeFuncBox
import Derived.RangeFuncFrom
import Derived.Shelf.Abstract
import Derived.Shelf.RegionOpen
import Derived.OwnWalkIn
import Derived.TacticsInMore
import Derived.LoopNIn
import Derived.LoopIn
namespace Go.Proofs.YtgppdbiimlbpjaaDoor
set_option linter.unusedVariables false
set_option linter.unusedSimpArgs false
open Go.RowKit


/-! ### in plain numbers -/
theorem img_bit (f : Nat → Nat) (s : Nat) : ∀ m q, (img f s m).testBit q = decide (∃ p, p < m ∧ s.testBit p = true ∧ f p = q)
  | 0, q => by simp [img]
  | m + 1, q => by
    have ih := img_bit f s m q
    show (img f s m ||| s / 2 ^ m % 2 * 2 ^ f m).testBit q = _
    rw [Nat.testBit_or, ih]
    have hb : s.testBit m = decide (s / 2 ^ m % 2 = 1) := Nat.testBit_eq_decide_div_mod_eq
    have h2 : (s / 2 ^ m % 2 * 2 ^ f m).testBit q = decide (s.testBit m = true ∧ f m = q) := by
      by_cases h1 : s / 2 ^ m % 2 = 1
      · rw [h1, Nat.one_mul, Nat.testBit_two_pow]
        rw [decide_eq_true h1] at hb
        simp [hb]
      · have h0 : s / 2 ^ m % 2 = 0 := by omega
        rw [h0, Nat.zero_mul, Nat.zero_testBit]
        rw [decide_eq_false h1] at hb
        simp [hb]
    rw [h2, Bool.eq_iff_iff, Bool.or_eq_true, decide_eq_true_iff, decide_eq_true_iff, decide_eq_true_iff]
    constructor
    · rintro (⟨p, h1, h3⟩ | h)
      · exact ⟨p, by omega, h3⟩
      · exact ⟨m, by omega, h⟩
    · rintro ⟨p, h1, h3⟩
      by_cases e : p = m
      · subst e; exact .inr h3
      · exact .inl ⟨p, by omega, h3⟩
theorem img_comp {n : Nat} {a b : Nat → Nat} (hb : ∀ i, i < n → b i < n) (s : Nat) : img a (img b s n) n = img (fun i => a (b i)) s n := by
  apply Nat.eq_of_testBit_eq
  intro q
  rw [img_bit, img_bit, decide_eq_decide]
  constructor
  · rintro ⟨r, hr, h1, h2⟩
    rw [img_bit, decide_eq_true_iff] at h1
    obtain ⟨p, hp, h3, h4⟩ := h1
    exact ⟨p, hp, h3, by rw [h4, h2]⟩
  · rintro ⟨p, hp, h1, h2⟩
    refine ⟨b p, hb p hp, ?_, h2⟩
    rw [img_bit, decide_eq_true_iff]
    exact ⟨p, hp, h1, rfl⟩
theorem img_bound {n : Nat} {a : Nat → Nat} (ha : ∀ i, i < n → a i < n) (s : Nat) : img a s n < 2 ^ n := by
  apply Nat.lt_pow_two_of_testBit
  intro q hq
  rw [img_bit]
  refine decide_eq_false ?_
  rintro ⟨p, hp, _, h⟩
  have := ha p hp
  omega
def pop (x : Nat) : Nat := ((List.range 5).filter fun p => x / 2 ^ p % 2 == 1).length
theorem pop_fin : ∀ n : Fin 6, ∀ l ∈ pl n.val, ∀ s, s < 2 ^ n.val → pop (img (fun_ l) s n.val) = pop s := by decide +kernel
theorem sct_comp {n : Nat} (h5 : n ≤ 5) {l m : List Nat} (hl : l ∈ pl n) (hm : m ∈ pl n) (h1 : 1 ≤ n) (v : Nat → Int) (i : Nat) (hi : i < n) : sct (fun_ l) (sct (fun_ m) v n) n i = sct (fun i => fun_ l (fun_ m i)) v n i := by
  have gl := (pl_good h1 h5 hl).2
  have gm := (pl_good h1 h5 hm).2
  have bl := bk_of h5 hl i hi
  have bm := bk_of h5 hm _ bl.2.1
  have e : i = fun_ l (fun_ m (bk n (fun_ m) (bk n (fun_ l) i))) := by rw [bm.2.2.2, bl.2.2.2]
  have q := bm.2.1
  have e1 := sct_at (v := v) (good_comp gl gm).perm n (Nat.le_refl _) _ q
  have e2 := sct_at (v := sct (fun_ m) v n) gl.perm n (Nat.le_refl _) _ (gm.perm.lt _ q)
  have e3 := sct_at (v := v) gm.perm n (Nat.le_refl _) _ q
  rw [← e] at e1 e2
  rw [e1, e2, e3]
theorem sct_perm {n : Nat} (h1 : 1 ≤ n) (h5 : n ≤ 5) {l : List Nat} (hl : l ∈ pl n) (v : Nat → Int) : (lsf n (sct (fun_ l) v n)).Perm (lsf n v) := by
  have gl := (pl_good h1 h5 hl).2
  have hp : ((List.range n).map (fun_ l)).Perm (List.range n) := by
    refine (List.perm_ext_iff_of_nodup ?_ List.nodup_range).2 fun i => ?_
    · unfold List.Nodup
      rw [List.pairwise_map]
      exact List.Pairwise.imp_of_mem (fun {a b} ha hb hne e => hne (gl.perm.inj _ _ (List.mem_range.1 ha) (List.mem_range.1 hb) e)) (List.nodup_range (n := n))
    · rw [List.mem_map, List.mem_range]
      constructor
      · rintro ⟨p, hp, rfl⟩
        exact gl.perm.lt p (List.mem_range.1 hp)
      · intro hi
        have hb := bk_of h5 hl i hi
        exact ⟨_, List.mem_range.2 hb.2.1, hb.2.2.2⟩
  have h2 := hp.map (sct (fun_ l) v n)
  rw [List.map_map] at h2
  have e : (List.range n).map (sct (fun_ l) v n ∘ fun_ l) = lsf n v := by
    unfold lsf
    exact List.map_congr_left fun i hi => sct_at gl.perm n (Nat.le_refl _) i (List.mem_range.1 hi)
  rw [e] at h2
  exact h2.symm
def srt (l : List Int) : List Int := l.mergeSort fun x y => decide (x ≤ y)
theorem srt_perm {l m : List Int} (h : l.Perm m) : srt l = srt m := by
  unfold srt
  have p1 := List.mergeSort_perm l fun x y => decide (x ≤ y)
  have p2 := List.mergeSort_perm m fun x y => decide (x ≤ y)
  have s : ∀ k : List Int, (k.mergeSort fun x y => decide (x ≤ y)).Pairwise fun x y => x ≤ y := fun k => by
    have := List.pairwise_mergeSort (le := fun x y : Int => decide (x ≤ y)) (fun a b c h h' => by simp at *; omega) (fun a b => by simp; omega) k
    exact this.imp fun h => by simpa using h
  exact ((p1.trans h).trans p2.symm).eq_of_pairwise (fun a b _ _ h h' => by omega) (s l) (s m)
theorem srt_len (l : List Int) : (srt l).length = l.length := (List.mergeSort_perm _ _).length_eq
/-! ### the number of elements -/
set_option maxHeartbeats 4000000 in
theorem ones64_any (x : Nat) (hx : x < 32) (w : World) :
    Calls Tryd.prog 68 #[.int .u64 (x : Int)] w fun e w' => e = .returned (.int .i64 ((pop x : Nat) : Int)) ∧ w = w' := by
  obtain rfl | rfl | rfl | rfl | rfl | rfl | rfl | rfl | rfl | rfl | rfl | rfl | rfl | rfl | rfl | rfl | rfl | rfl | rfl | rfl | rfl | rfl | rfl | rfl | rfl | rfl | rfl | rfl | rfl | rfl | rfl | rfl : x = 0 ∨ x = 1 ∨ x = 2 ∨ x = 3 ∨ x = 4 ∨ x = 5 ∨ x = 6 ∨ x = 7 ∨ x = 8 ∨ x = 9 ∨ x = 10 ∨ x = 11 ∨ x = 12 ∨ x = 13 ∨ x = 14 ∨ x = 15 ∨ x = 16 ∨ x = 17 ∨ x = 18 ∨ x = 19 ∨ x = 20 ∨ x = 21 ∨ x = 22 ∨ x = 23 ∨ x = 24 ∨ x = 25 ∨ x = 26 ∨ x = 27 ∨ x = 28 ∨ x = 29 ∨ x = 30 ∨ x = 31 := by omega
  all_goals
    go_enter Tryd.func68, Tryd.ntmps68
    go_wp2_with fail
    go_ret
    exact ⟨by kernel_rfl, rfl⟩
theorem ones_any (x : Nat) (hx : x < 32) (w : World) :
    Calls Tryd.prog 43 #[.int .u64 (x : Int)] w fun e w' => e = .returned (.int .i64 ((pop x : Nat) : Int)) ∧ w = w' := by
  have H := Lib.hid (fun w => ones64_any x hx w)
  have hx2 : (x : Int) < 32 := by omega
  clear hx
  go_enter Tryd.func43, Tryd.ntmps43
  go_wp2_with fail
  refine (H.out _).mono ?_
  rintro e w' ⟨rfl, rfl⟩
  go_wp2_with fail
  go_ret
  exact ⟨rfl, rfl⟩
theorem and3_fin : ∀ s : Fin 256, ∀ m : Fin 5, bits .and .i64 ((s.val : Int) / (2 : Int) ^ m.val) 3 = ((s.val / 2 ^ m.val % 4 : Nat) : Int) := by decide +kernel

end Go.Proofs.YtgppdbiimlbpjaaDoor
