/- The specification's Compose and Identity. -/
import Derived.Test.YtgppdbiimlbpjaaDoorRwS
import Derived.WalkKit
import Derived.WalkSpells
import Derived.WalkLawsBesides
import Derived.Handy
import Derived.Deep.QuietTactic
import Derived.BigQuiet
import Derived.Outline
import Derived.Laws.BitsAllLaws
import Derived.IntWalk
import Derived.Lib.SmallJoins
import Derived.Lib.Hide
import Derived.Deep.DeepCutAuto
import Derived.LoopTactic
import Derived.Deep.RegionWith
import Derived.Laws.CopyOwn
import Derived.Maps.OwnOps
import Derived.Maps.OwnSet
import Derived.Laws.OwnMore
import Derived.Maps.AppendAt
import Derived.Test.YtgppdbiimlbpjaaDoorShelF
import Derived.RangeFuncNested
import Derived.RangeFuncBound
import Derived.RangeFuncCalls
import Derived.RangeFuncLeaves
import Derived.RangeFuncBox
import Derived.RangeFuncFrom
import Derived.Shelf.Abstract
import Derived.Shelf.RegionOpen
import Derived.OwnWalkIn
import Derived.TacticsInMore
import Derived.LoopNIn
import Derived.LoopIn
namespace Go.Proofs.YtgppdbiimlbpjaaDoor
set_option linter.unusedVariables false
set_option linter.unusedSimpArgs false
open Go.RowKit

theorem rcomp_good (n : Nat) (a b : Nat → Nat) (ha : Good n a) (hb : Good n b) (o p : Option Addr) (cap cap' : Nat) (w : World) (hL : Lq w o n cap (zf a)) (hL' : Lq w p n cap' (zf b)) : Calls Tryd.prog 23 #[.slice o n cap, .slice p n cap'] w (QRes n (zf fun i => a (b i)) 0 w) := by
  have H1 := Lib.hid (rcheck_any n (zf a) o cap w hL.1)
  rw [good_code ha] at H1
  have H2 := Lib.hid (fun W (h : Lz W p n (zf b)) => by have := rcheck_any n (zf b) p cap' W h; rwa [good_code hb] at this)
  have HT := Lib.hid (fun W (h : Lz W o n (zf a)) (h' : Lz W p n (zf b)) => times_ok n (by have := ha.hi; omega) a b hb.perm.lt o p cap cap' W h h')
  have HL := Lib.hid hL.1
  have HL' := Lib.hid hL'.1
  clear hL hL' ha hb
  go_enter Tryd.func23, Tryd.ntmps23
  go_wp2_with fail
  refine H1.out.mono ?_
  rintro e w1 ⟨rfl, hb1⟩
  have HB1 := Lib.hid hb1
  clear hb1
  go_wp2_with fail
  refine (H2.out _ (HL'.out.below HB1.out)).mono ?_
  rintro e w2 ⟨rfl, hb2⟩
  have HB2 := Lib.hid (HB1.out.trans (Joins.below_le hb2 HB1.out.size))
  clear hb2
  go_wp2_with fail
  refine (HT.out _ (HL.out.below HB2.out) (HL'.out.below HB2.out)).mono ?_
  rintro e w3 ⟨q, c, rfl, hl, hb3⟩
  have HQ := Lib.hid hl
  have HB3 := Lib.hid (HB2.out.trans (Joins.below_le hb3 HB2.out.size))
  clear hl hb3
  go_wp2_with fail
  go_ret2
  exact ⟨_, _, rfl, HQ.out, HB3.out⟩
theorem rcomp_bad (n m : Nat) (x y : Nat → Int) (c : Int) (hc : pcode2 n x m y = c) (h0 : c ≠ 0) (o p : Option Addr) (cap cap' : Nat) (w : World) (hL : Lq w o n cap x) (hL' : Lq w p m cap' y) : Calls Tryd.prog 23 #[.slice o n cap, .slice p m cap'] w (QRes 0 (fun _ => 0) c w) := by
  have H1 := Lib.hid (rcheck_any n x o cap w hL.1)
  have H2 := Lib.hid (fun W (h : Lz W p m y) => rcheck_any m y p cap' W h)
  have HL' := Lib.hid hL'.1
  clear hL hL'
  unfold pcode2 at hc
  obtain ⟨r1, hr1⟩ : ∃ r, pcode n x = r := ⟨_, rfl⟩
  obtain ⟨r2, hr2⟩ : ∃ r, pcode m y = r := ⟨_, rfl⟩
  rw [hr1] at hc H1
  rw [hr2] at hc H2
  clear hr1 hr2
  by_cases e1 : r1 = 0
  · rw [if_neg (by simp [e1])] at hc
    subst e1
    by_cases e2 : r2 = 0
    · rw [if_neg (by simp [e2])] at hc
      subst e2
      by_cases e3 : n = m
      · rw [if_neg (by simp [e3])] at hc
        exact absurd hc.symm h0
      · rw [if_pos e3] at hc
        subst hc
        have h1 : (n == m) = false := by simpa using e3
        have h2 : ((n : Int) != (m : Int)) = true := by rw [bne_iff_ne]; omega
        clear e3 h0
        go_enter Tryd.func23, Tryd.ntmps23
        go_wp2_with fail
        refine H1.out.mono ?_
        rintro e w1 ⟨rfl, hb1⟩
        have HB1 := Lib.hid hb1
        clear hb1
        go_wp2_with fail
        refine (H2.out _ (HL'.out.below HB1.out)).mono ?_
        rintro e w2 ⟨rfl, hb2⟩
        have HB2 := Lib.hid (HB1.out.trans (Joins.below_le hb2 HB1.out.size))
        clear hb2
        go_wp2_with fail
        go_ret2
        exact ⟨_, _, rfl, ⟨Lz.nil, by omega⟩, HB2.out⟩
    · rw [if_pos e2] at hc
      subst hc
      have h2 : (r2 != 0) = true := by rw [bne_iff_ne]; exact e2
      clear e2 h0
      go_enter Tryd.func23, Tryd.ntmps23
      go_wp2_with fail
      refine H1.out.mono ?_
      rintro e w1 ⟨rfl, hb1⟩
      have HB1 := Lib.hid hb1
      clear hb1
      go_wp2_with fail
      refine (H2.out _ (HL'.out.below HB1.out)).mono ?_
      rintro e w2 ⟨rfl, hb2⟩
      have HB2 := Lib.hid (HB1.out.trans (Joins.below_le hb2 HB1.out.size))
      clear hb2
      go_wp2_with fail
      go_ret2
      exact ⟨_, _, rfl, ⟨Lz.nil, by omega⟩, HB2.out⟩
  · rw [if_pos e1] at hc
    subst hc
    have h2 : (r1 != 0) = true := by rw [bne_iff_ne]; exact e1
    clear e1 h0
    go_enter Tryd.func23, Tryd.ntmps23
    go_wp2_with fail
    refine H1.out.mono ?_
    rintro e w1 ⟨rfl, hb1⟩
    have HB1 := Lib.hid hb1
    clear hb1
    go_wp2_with fail
    go_ret2
    exact ⟨_, _, rfl, ⟨Lz.nil, by omega⟩, HB1.out⟩
theorem rident_bad (n : Int) (h : n < 1 ∨ 5 < n) (w : World) : Calls Tryd.prog 25 #[.int .i64 n] w (QRes 0 (fun _ => 0) 2 w) := by
  rcases h with h | h
  · go_enter Tryd.func25, Tryd.ntmps25
    go_wp2_with fail
    go_ret2
    exact ⟨_, _, rfl, ⟨Lz.nil, by omega⟩, Below.refl _ _⟩
  · have h1 : ¬ n < 1 := by omega
    go_enter Tryd.func25, Tryd.ntmps25
    go_wp2_with fail
    go_ret2
    exact ⟨_, _, rfl, ⟨Lz.nil, by omega⟩, Below.refl _ _⟩
theorem rident_good (n : Nat) (h1 : 1 ≤ n) (h5 : n ≤ 5) (w : World) : Calls Tryd.prog 25 #[.int .i64 (n : Int)] w (QRes n (zf fun i => i) 0 w) := by
  have g1 : ¬ (n : Int) < 1 := by omega
  have g2 : ¬ 5 < (n : Int) := by omega
  go_enter Tryd.func25, Tryd.ntmps25
  go_wp2_with fail
  refine (one_ok n (by omega) _).mono ?_
  rintro e w1 ⟨q, c, rfl, hl, hb⟩
  have HQ := Lib.hid hl
  have HB := Lib.hid hb
  clear hl hb
  go_wp2_with fail
  go_ret2
  exact ⟨_, _, rfl, HQ.out, HB.out⟩
theorem comp_two (n m : Nat) (x y : Nat → Int) : ∃ (k : Nat) (u : Nat → Int) (c : Int), k ≤ 1000000 ∧
    (∀ o p cap cap' w, Lq w o n cap x → Lq w p m cap' y → Calls Tryd.prog 22 #[.slice o n cap, .slice p m cap'] w (QRes k u c w)) ∧
    (∀ o p cap cap' w, Lq w o n cap x → Lq w p m cap' y → Calls Tryd.prog 23 #[.slice o n cap, .slice p m cap'] w (QRes k u c w)) := by
  by_cases h0 : pcode2 n x m y = 0
  · have ha0 : pcode n x = 0 := by
      by_cases h : pcode n x = 0
      · exact h
      · unfold pcode2 at h0; rw [if_pos h] at h0; exact h0
    have hb0 : pcode m y = 0 := by
      by_cases h : pcode m y = 0
      · exact h
      · unfold pcode2 at h0; rw [if_neg (by simp [ha0]), if_pos h] at h0; exact h0
    have hnm : n = m := by
      by_cases h : n = m
      · exact h
      · unfold pcode2 at h0; rw [if_neg (by simp [ha0]), if_neg (by simp [hb0]), if_pos h] at h0; exact absurd h0 (by decide)
    subst hnm
    obtain ⟨a, ha, ea⟩ := good_of ha0
    obtain ⟨b, hb, eb⟩ := good_of hb0
    exact ⟨n, _, 0, by have := ha.hi; omega, fun o p cap cap' w h h' => comp_good n a b ha hb o p cap cap' w (h.as ea) (h'.as eb), fun o p cap cap' w h h' => rcomp_good n a b ha hb o p cap cap' w (h.as ea) (h'.as eb)⟩
  · exact ⟨0, _, _, by omega, fun o p cap cap' w h h' => comp_bad n m x y _ rfl h0 o p cap cap' w h h', fun o p cap cap' w h h' => rcomp_bad n m x y _ rfl h0 o p cap cap' w h h'⟩
theorem ident_two (z : Int) : ∃ (k : Nat) (u : Nat → Int) (c : Int), k ≤ 1000000 ∧ (∀ w, Calls Tryd.prog 24 #[.int .i64 z] w (QRes k u c w)) ∧ (∀ w, Calls Tryd.prog 25 #[.int .i64 z] w (QRes k u c w)) := by
  by_cases h : z < 1 ∨ 5 < z
  · exact ⟨0, _, 2, by omega, fun w => ident_bad z h w, fun w => rident_bad z h w⟩
  · obtain ⟨n, rfl⟩ := Int.eq_ofNat_of_zero_le (show 0 ≤ z by omega)
    exact ⟨n, _, 0, by omega, fun w => ident_good n (by omega) (by omega) w, fun w => rident_good n (by omega) (by omega) w⟩

end Go.Proofs.YtgppdbiimlbpjaaDoor
