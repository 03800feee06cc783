/- Tokens that fit their kinds; whether two run together. -/
import Derived.Test.YtgckopicmobbgaaDoorLxG
import Derived.WalkKit
import Derived.WalkSpells
import Derived.WalkLawsBesides
import Derived.Handy
import Derived.Deep.QuietTactic
import Derived.BigQuiet
import Derived.Outline
import Derived.Laws.BitsAllLaws
import Derived.IntWalk
import Derived.Lib.SmallJoins
import Derived.Lib.Hide
import Derived.Deep.DeepCutAuto
import Derived.LoopTactic
import Derived.Deep.RegionWith
import Derived.Lib.ConvBytes
import Derived.OwnWalk
import Derived.Laws.MakeOwn
namespace Go.Proofs.YtgckopicmobbgaaDoor
set_option linter.unusedVariables false
set_option linter.unusedSimpArgs false
open Go.RowKit Lex

theorem lit_eq (s : ByteArray) (x : UInt8) : (s.toList == [x]) = decide (bl s = [x.toNat]) := by
  rw [Bool.eq_iff_iff, beq_iff_eq, decide_eq_true_iff, ByteArray.toList_eq]
  unfold bl
  exact (List.map_inj_right (l' := [x]) (fun a b h => UInt8.toNat_inj.1 h)).symm
set_option maxRecDepth 100000 in
set_option maxHeartbeats 1000000 in
theorem fits_p (k : Nat) (hk : k ≤ 3) (s : ByteArray) (hs : s.size ≤ 1000000) (p : Int) (w : World) (hT : StrTab w 1 sgT) : Calls Tryd.prog 43 #[.agg #[.int .i64 (k : Int), .string s, .int .i64 p]] w fun e w' => e = .returned (.bool (fitB k (bl s))) ∧ Below w.heap.size w w' := by
  have H0 := Lib.hid (isName_p s hs)
  have H1 := Lib.hid (isNumber_p s hs)
  have H2 := Lib.hid (fun w h => isSign_p s w h)
  have HT := Lib.hid (fun o => hT.below ((Below.refl w.heap.size w).alloc (Nat.le_refl _) o))
  have he := empty_iff s
  clear hT
  obtain rfl | rfl | rfl | rfl : k = 0 ∨ k = 1 ∨ k = 2 ∨ k = 3 := by omega
  · rw [show fitB 0 (bl s) = nameB (bl s) from rfl]
    obtain ⟨r, hr⟩ : ∃ r, nameB (bl s) = r := ⟨_, rfl⟩
    rw [hr] at H0 ⊢
    clear hr he
    go_enter Tryd.func43, Tryd.ntmps43
    go_wp2_with fail
    refine (H0.out _).mono ?_
    rintro e w' ⟨rfl, rfl⟩
    go_wp2_with fail
    go_ret
    exact ⟨rfl, (Below.refl _ _).alloc (Nat.le_refl _) _⟩
  · rw [show fitB 1 (bl s) = numB (bl s) from rfl]
    obtain ⟨r, hr⟩ : ∃ r, numB (bl s) = r := ⟨_, rfl⟩
    rw [hr] at H1 ⊢
    clear hr he
    go_enter Tryd.func43, Tryd.ntmps43
    go_wp2_with fail
    refine (H1.out _).mono ?_
    rintro e W1 ⟨rfl, hb⟩
    have HB := Lib.hid (((Below.refl w.heap.size w).alloc (Nat.le_refl _) _).trans (hb.mono (by simp)))
    clear hb
    go_wp2_with fail
    go_ret
    exact ⟨rfl, HB.out⟩
  · rw [show fitB 2 (bl s) = decide (bl s ∈ sgT) from rfl]
    obtain ⟨r, hr⟩ : ∃ r, decide (bl s ∈ sgT) = r := ⟨_, rfl⟩
    rw [hr] at H2 ⊢
    clear hr he
    go_enter Tryd.func43, Tryd.ntmps43
    go_wp2_with fail
    refine (H2.out _ (HT.out _)).mono ?_
    rintro e w' ⟨rfl, rfl⟩
    go_wp2_with fail
    go_ret
    exact ⟨rfl, (Below.refl _ _).alloc (Nat.le_refl _) _⟩
  · rw [show fitB 3 (bl s) = (bl s).isEmpty from rfl]
    obtain ⟨r, hr⟩ : ∃ r, (bl s).isEmpty = r := ⟨_, rfl⟩
    rw [hr] at he ⊢
    clear hr
    go_enter Tryd.func43, Tryd.ntmps43
    go_wp2_with fail
    go_ret
    exact ⟨rfl, (Below.refl _ _).alloc (Nat.le_refl _) _⟩
/-- Whether a token is a word. -/
def wdB (k : Nat) : Bool := decide (k ≤ 1)
set_option maxRecDepth 100000 in
theorem isWord_p (k : Nat) (hk : k ≤ 3) (s : ByteArray) (p : Int) (w : World) : Calls Tryd.prog 80 #[.agg #[.int .i64 (k : Int), .string s, .int .i64 p]] w fun e w' => e = .returned (.bool (wdB k)) ∧ Below w.heap.size w w' := by
  obtain rfl | rfl | rfl | rfl : k = 0 ∨ k = 1 ∨ k = 2 ∨ k = 3 := by omega
  all_goals
    go_enter Tryd.func80, Tryd.ntmps80
    go_wp2_with fail
    go_ret
    exact ⟨rfl, (Below.refl _ _).alloc (Nat.le_refl _) _⟩
/-- Whether a blank stands between two tokens. -/
def sepJ (k : Nat) (a : List Nat) (k' : Nat) (c : List Nat) : Bool := (wdB k && wdB k') || (decide (a = [60]) && decide (c = [61]))
set_option maxRecDepth 100000 in
set_option maxHeartbeats 1000000 in
theorem together_p (k k' : Nat) (hk : k ≤ 3) (hk' : k' ≤ 3) (s t : ByteArray) (p q : Int) (w : World) : Calls Tryd.prog 44 #[.agg #[.int .i64 (k : Int), .string s, .int .i64 p], .agg #[.int .i64 (k' : Int), .string t, .int .i64 q]] w fun e w' => e = .returned (.bool (sepJ k (bl s) k' (bl t))) ∧ Below w.heap.size w w' := by
  have HA := Lib.hid (isWord_p k hk s p)
  have HB := Lib.hid (isWord_p k' hk' t q)
  have hs60' := lit_eq s 60
  have ht61' := lit_eq t 61
  rw [show (60 : UInt8).toNat = 60 from rfl] at hs60'
  rw [show (61 : UInt8).toNat = 61 from rfl] at ht61'
  unfold sepJ
  obtain ⟨x, hx⟩ : ∃ x, wdB k = x := ⟨_, rfl⟩
  obtain ⟨y, hy⟩ : ∃ y, wdB k' = y := ⟨_, rfl⟩
  obtain ⟨a, ha⟩ : ∃ a, decide (bl s = [60]) = a := ⟨_, rfl⟩
  obtain ⟨c, hc⟩ : ∃ c, decide (bl t = [61]) = c := ⟨_, rfl⟩
  rw [hx] at HA ⊢
  rw [hy] at HB ⊢
  rw [ha] at hs60' ⊢
  rw [hc] at ht61' ⊢
  clear hx hy ha hc
  have stop : True := trivial
  cases x
  all_goals cases y
  all_goals cases a
  all_goals cases c
  all_goals
    go_enter Tryd.func44, Tryd.ntmps44
    go_wp2_with fail
    refine (HA.out _).mono ?_
    rintro e W1 ⟨rfl, hb⟩
    have HB1 := Lib.hid ((((Below.refl w.heap.size w).alloc (Nat.le_refl _) (.cells #[.int .i64 (k : Int), .string s, .int .i64 p] 32)).alloc (by simp) (.cells #[.int .i64 (k' : Int), .string t, .int .i64 q] 32)).trans (hb.mono (by simp; omega)))
    obtain ⟨hcc, hff⟩ := bcell hb
    have hz : w.heap.size + 1 < W1.heap.size := by have := hb.size; simp at this; omega
    have hz0 : w.heap.size < W1.heap.size := by omega
    clear hb
    go_wp2_with fail
    first
    | (go_ret; exact ⟨rfl, HB1.out⟩)
    | (refine (HB.out _).mono ?_
       rintro e W2 ⟨rfl, hb⟩
       have HB2 := Lib.hid (HB1.out.trans (Joins.below_le hb HB1.out.size))
       obtain ⟨hcc2, hff2⟩ := bcell hb
       have hz2 : w.heap.size + 1 < W2.heap.size := by have := hb.size; omega
       have hz3 : w.heap.size < W2.heap.size := by omega
       clear hb
       go_wp2_with fail
       go_ret
       exact ⟨rfl, HB2.out⟩)

end Go.Proofs.YtgckopicmobbgaaDoor
