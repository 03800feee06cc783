/- The specification: signs. -/
import Derived.Test.YtgckopicmobbgaaDoorLxR
import Derived.WalkKit
import Derived.WalkSpells
import Derived.WalkLawsBesides
import Derived.Handy
import Derived.Deep.QuietTactic
import Derived.BigQuiet
import Derived.Outline
import Derived.Laws.BitsAllLaws
import Derived.IntWalk
import Derived.Lib.SmallJoins
import Derived.Lib.Hide
import Derived.Deep.DeepCutAuto
import Derived.LoopTactic
import Derived.Deep.RegionWith
import Derived.Lib.ConvBytes
import Derived.OwnWalk
import Derived.Laws.MakeOwn
import Derived.Laws.IdiomStrings
namespace Go.Proofs.YtgckopicmobbgaaDoor
set_option linter.unusedVariables false
set_option linter.unusedSimpArgs false
open Go.RowKit Lex

theorem below_dnS {B : Nat} {w W : World} (n : Nat) (h : Below B w W) : Below B w (W.drewN n) := ⟨h.os, h.tape, h.output, h.size, h.block⟩
/-- The sign at a place: whether two bytes make one. -/
def twoB (c : Nat) (r : List Nat) : Bool := (decide (c = 60) || decide (c = 33)) && decide (r.head? = some 61)
theorem sgn_two (c : Nat) (r : List Nat) : sgnN (c :: r) = if twoB c r then 2 else if c ∈ sg1 then 1 else 0 := by
  unfold twoB
  simp only [sgnN]
  by_cases h : (c = 60 ∨ c = 33) ∧ r.head? = some 61
  · rw [if_pos h, if_pos (by simpa using h)]
  · have e : ((decide (c = 60) || decide (c = 33)) && decide (r.head? = some 61)) = false := by
      rw [Bool.eq_false_iff]
      intro h2
      apply h
      simpa using h2
    rw [if_neg h, e, if_neg (show ¬ (false = true) by decide)]
theorem sg1_at : ∀ i : Fin 11, (({ data := #[59, 44, 58, 40, 41, 123, 125, 43, 45, 61, 60] } : ByteArray)[i.val]'(by have := i.isLt; show i.val < 11; omega)).toNat = sg1.getD i.val 0 := by decide
theorem sg1_drop {i : Nat} (h : i < 11) : sg1.drop i = sg1.getD i 0 :: sg1.drop (i + 1) := by
  obtain rfl | rfl | rfl | rfl | rfl | rfl | rfl | rfl | rfl | rfl | rfl : i = 0 ∨ i = 1 ∨ i = 2 ∨ i = 3 ∨ i = 4 ∨ i = 5 ∨ i = 6 ∨ i = 7 ∨ i = 8 ∨ i = 9 ∨ i = 10 := by omega
  all_goals rfl
set_option maxRecDepth 20000 in
set_option maxHeartbeats 2000000 in
theorem rsign (s : ByteArray) (hs : s.size ≤ 1000000) (at0 : Nat) (hat : at0 < s.size) (w : World) : Calls Tryd.prog 75 #[.string s, .int .i64 (at0 : Int)] w fun e w' => e = .returned (.int .i64 ((sgnN ((bl s).drop at0) : Nat) : Int)) ∧ Below w.heap.size w w' := by
  have hD := bl_drop hat
  have hc := (s[at0]'hat).toNat_lt
  obtain ⟨c, hcc⟩ : ∃ c, (s[at0]'hat).toNat = c := ⟨_, rfl⟩
  rw [hcc] at hD hc
  rw [hD, sgn_two]
  have hat1 : (at0 : Int) < (s.size : Int) := by omega
  have hat2 : (at0 : Int) ≤ 1000000 := by omega
  have hhd : ((bl s).drop (at0 + 1)).head? = (bl s)[at0 + 1]? := by rw [List.head?_drop]
  cases ht : twoB c ((bl s).drop (at0 + 1)) with
  | true =>
    unfold twoB at ht
    rw [Bool.and_eq_true, decide_eq_true_iff, hhd] at ht
    obtain ⟨h1, h2⟩ := ht
    have hlt : at0 + 1 < s.size := by
      rw [← bl_len]
      exact (List.getElem?_eq_some_iff.1 h2).1
    have h3 : (s[at0 + 1]'hlt).toNat = 61 := by
      have := bl_at hlt
      rw [h2] at this
      injection this with this
      exact this.symm
    have hlt1 : (at0 : Int) + 1 < (s.size : Int) := by omega
    have hor : c = 60 ∨ c = 33 := by simpa using h1
    clear hD hhd h1 h2 hc
    rcases hor with rfl | rfl
    all_goals
      go_enter Tryd.func75, Tryd.ntmps75
      go_wp2_with fail
      go_ret
      exact ⟨rfl, Below.refl _ _⟩
  | false =>
    have hm : (if (false : Bool) = true then 2 else if c ∈ sg1 then 1 else 0) = (if c ∈ sg1 then 1 else 0) := by rw [if_neg (by decide)]
    rw [hm]
    have hnot : at0 + 1 < s.size → (h : at0 + 1 < s.size) → (s[at0 + 1]'h).toNat = 61 → c ≠ 60 ∧ c ≠ 33 := fun _ h h61 => by
      have h4 := bl_at h
      rw [h61] at h4
      unfold twoB at ht
      rw [hhd, h4] at ht
      simp at ht
      exact ht
    obtain ⟨r, hr⟩ : ∃ r, (if c ∈ sg1 then 1 else 0 : Nat) = r := ⟨_, rfl⟩
    rw [hr]
    have HR := Lib.hid hr
    have HAtt := Lib.hid sg1_at
    have HNot := Lib.hid hnot
    clear hD hhd ht hm hr hnot
    have loop : True := trivial
    by_cases hlt : at0 + 1 < s.size
    · have hlt1 : (at0 : Int) + 1 < (s.size : Int) := by omega
      obtain ⟨c2, hcc2⟩ : ∃ c2, (s[at0 + 1]'hlt).toNat = c2 := ⟨_, rfl⟩
      by_cases h61 : c2 = 61
      · obtain ⟨hn1, hn2⟩ := HNot.out hlt hlt (by rw [hcc2]; exact h61)
        subst h61
        have e1 : ((c : Int) == 60) = false := by rw [beq_eq_false_iff_ne]; omega
        have e2 : ((c : Int) == 33) = false := by rw [beq_eq_false_iff_ne]; omega
        have e3 : ¬ (c : Int) = 60 := by omega
        have e4 : ¬ (c : Int) = 33 := by omega
        go_enter Tryd.func75, Tryd.ntmps75
        go_wp2_with fail
        go_loopw [6] (fun j wr => ∃ i : Nat, i ≤ 11 ∧ j = .int .i64 (i : Int) ∧ (if c ∈ sg1.drop i then 1 else 0 : Nat) = r ∧ ∃ d, wr = w.drewN d) (fun j _ => 11 - (intOf j).toNat)
        case atStart => exact ⟨0, by omega, by first | trivial | rfl, by rw [List.drop_zero]; exact HR.out, 0, rfl⟩
        case round =>
          obtain ⟨i, hi, rfl, hr, d, rfl⟩ := hrel
          by_cases hli : i < 11
          · have hi1 : (i : Int) < 11 := by omega
            have hsg := HAtt.out ⟨i, hli⟩
            have hdr := sg1_drop hli
            obtain ⟨x, hx⟩ : ∃ x, sg1.getD i 0 = x := ⟨_, rfl⟩
            dsimp only at hsg
            rw [hx] at hsg hdr
            rw [hdr] at hr
            by_cases hxc : x = c
            · subst hxc
              have hr1 : r = 1 := by rw [← hr, if_pos List.mem_cons_self]
              subst hr1
              clear hr hdr hx HR HNot
              go_wp2_with fail
              go_quiet (fail)
              go_wp2_with fail
              go_ret
              exact ⟨rfl, below_dnS _ (below_dnS _ (Below.refl _ _))⟩
            · have hr2 : (if c ∈ sg1.drop (i + 1) then 1 else 0 : Nat) = r := by
                rw [← hr]
                by_cases h : c ∈ sg1.drop (i + 1)
                · rw [if_pos h, if_pos (List.mem_cons_of_mem _ h)]
                · rw [if_neg h, if_neg (fun h2 => by rcases List.mem_cons.1 h2 with h3 | h3; exact hxc h3.symm; exact h h3)]
              have HR2 := Lib.hid hr2
              have f1 : ((x : Int) == (c : Int)) = false := by rw [beq_eq_false_iff_ne]; omega
              have f2 : ¬ (x : Int) = (c : Int) := by omega
              have f3 : ¬ x = c := hxc
              have f4 : (x == c) = false := by rw [beq_eq_false_iff_ne]; exact hxc
              clear hr hdr hx HR HNot hr2
              go_wp2_with fail
              go_quiet (fail)
              go_wp2_with fail
              go_roundw
              case rel => exact ⟨i + 1, by omega, by go_num, HR2.out, _, rfl⟩
              case measure => simp [intOf]; omega
          · obtain rfl : i = 11 := by omega
            have hr0 : r = 0 := by rw [← hr]; rfl
            subst hr0
            clear hr hli HR HNot
            go_wp2_with fail
            go_ret
            exact ⟨rfl, below_dnS _ (Below.refl _ _)⟩
      · have e1 : ((c2 : Int) == 61) = false := by rw [beq_eq_false_iff_ne]; omega
        have e3 : ¬ (c2 : Int) = 61 := by omega
        go_enter Tryd.func75, Tryd.ntmps75
        go_wp2_with fail
        go_loopw [6] (fun j wr => ∃ i : Nat, i ≤ 11 ∧ j = .int .i64 (i : Int) ∧ (if c ∈ sg1.drop i then 1 else 0 : Nat) = r ∧ ∃ d, wr = w.drewN d) (fun j _ => 11 - (intOf j).toNat)
        case atStart => exact ⟨0, by omega, by first | trivial | rfl, by rw [List.drop_zero]; exact HR.out, 0, rfl⟩
        case round =>
          obtain ⟨i, hi, rfl, hr, d, rfl⟩ := hrel
          by_cases hli : i < 11
          · have hi1 : (i : Int) < 11 := by omega
            have hsg := HAtt.out ⟨i, hli⟩
            have hdr := sg1_drop hli
            obtain ⟨x, hx⟩ : ∃ x, sg1.getD i 0 = x := ⟨_, rfl⟩
            dsimp only at hsg
            rw [hx] at hsg hdr
            rw [hdr] at hr
            by_cases hxc : x = c
            · subst hxc
              have hr1 : r = 1 := by rw [← hr, if_pos List.mem_cons_self]
              subst hr1
              clear hr hdr hx HR HNot
              go_wp2_with fail
              go_quiet (fail)
              go_wp2_with fail
              go_ret
              exact ⟨rfl, below_dnS _ (below_dnS _ (Below.refl _ _))⟩
            · have hr2 : (if c ∈ sg1.drop (i + 1) then 1 else 0 : Nat) = r := by
                rw [← hr]
                by_cases h : c ∈ sg1.drop (i + 1)
                · rw [if_pos h, if_pos (List.mem_cons_of_mem _ h)]
                · rw [if_neg h, if_neg (fun h2 => by rcases List.mem_cons.1 h2 with h3 | h3; exact hxc h3.symm; exact h h3)]
              have HR2 := Lib.hid hr2
              have f1 : ((x : Int) == (c : Int)) = false := by rw [beq_eq_false_iff_ne]; omega
              have f2 : ¬ (x : Int) = (c : Int) := by omega
              have f3 : ¬ x = c := hxc
              have f4 : (x == c) = false := by rw [beq_eq_false_iff_ne]; exact hxc
              clear hr hdr hx HR HNot hr2
              go_wp2_with fail
              go_quiet (fail)
              go_wp2_with fail
              go_roundw
              case rel => exact ⟨i + 1, by omega, by go_num, HR2.out, _, rfl⟩
              case measure => simp [intOf]; omega
          · obtain rfl : i = 11 := by omega
            have hr0 : r = 0 := by rw [← hr]; rfl
            subst hr0
            clear hr hli HR HNot
            go_wp2_with fail
            go_ret
            exact ⟨rfl, below_dnS _ (Below.refl _ _)⟩
    · have hlt1 : ¬ (at0 : Int) + 1 < (s.size : Int) := by omega
      go_enter Tryd.func75, Tryd.ntmps75
      go_wp2_with fail
      go_loopw [6] (fun j wr => ∃ i : Nat, i ≤ 11 ∧ j = .int .i64 (i : Int) ∧ (if c ∈ sg1.drop i then 1 else 0 : Nat) = r ∧ ∃ d, wr = w.drewN d) (fun j _ => 11 - (intOf j).toNat)
      case atStart => exact ⟨0, by omega, by first | trivial | rfl, by rw [List.drop_zero]; exact HR.out, 0, rfl⟩
      case round =>
        obtain ⟨i, hi, rfl, hr, d, rfl⟩ := hrel
        by_cases hli : i < 11
        · have hi1 : (i : Int) < 11 := by omega
          have hsg := HAtt.out ⟨i, hli⟩
          have hdr := sg1_drop hli
          obtain ⟨x, hx⟩ : ∃ x, sg1.getD i 0 = x := ⟨_, rfl⟩
          dsimp only at hsg
          rw [hx] at hsg hdr
          rw [hdr] at hr
          by_cases hxc : x = c
          · subst hxc
            have hr1 : r = 1 := by rw [← hr, if_pos List.mem_cons_self]
            subst hr1
            clear hr hdr hx HR HNot
            go_wp2_with fail
            go_quiet (fail)
            go_wp2_with fail
            go_ret
            exact ⟨rfl, below_dnS _ (below_dnS _ (Below.refl _ _))⟩
          · have hr2 : (if c ∈ sg1.drop (i + 1) then 1 else 0 : Nat) = r := by
              rw [← hr]
              by_cases h : c ∈ sg1.drop (i + 1)
              · rw [if_pos h, if_pos (List.mem_cons_of_mem _ h)]
              · rw [if_neg h, if_neg (fun h2 => by rcases List.mem_cons.1 h2 with h3 | h3; exact hxc h3.symm; exact h h3)]
            have HR2 := Lib.hid hr2
            have f1 : ((x : Int) == (c : Int)) = false := by rw [beq_eq_false_iff_ne]; omega
            have f2 : ¬ (x : Int) = (c : Int) := by omega
            have f3 : ¬ x = c := hxc
            have f4 : (x == c) = false := by rw [beq_eq_false_iff_ne]; exact hxc
            clear hr hdr hx HR HNot hr2
            go_wp2_with fail
            go_quiet (fail)
            go_wp2_with fail
            go_roundw
            case rel => exact ⟨i + 1, by omega, by go_num, HR2.out, _, rfl⟩
            case measure => simp [intOf]; omega
        · obtain rfl : i = 11 := by omega
          have hr0 : r = 0 := by rw [← hr]; rfl
          subst hr0
          clear hr hli HR HNot
          go_wp2_with fail
          go_ret
          exact ⟨rfl, below_dnS _ (Below.refl _ _)⟩

end Go.Proofs.YtgckopicmobbgaaDoor
