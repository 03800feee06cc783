/- PermutationActs. -/
import Derived.Test.YtgppdbiimlbpjaaDoorRwP
import Derived.WalkKit
import Derived.WalkSpells
import Derived.WalkLawsBesides
import Derived.Handy
import Derived.Deep.QuietTactic
import Derived.BigQuiet
import Derived.Outline
import Derived.Laws.BitsAllLaws
import Derived.IntWalk
import Derived.Lib.SmallJoins
import Derived.Lib.Hide
import Derived.Deep.DeepCutAuto
import Derived.LoopTactic
import Derived.Deep.RegionWith
import Derived.Laws.CopyOwn
import Derived.Maps.OwnOps
import Derived.Maps.OwnSet
import Derived.Laws.OwnMore
import Derived.Maps.AppendAt
import Derived.Test.YtgppdbiimlbpjaaDoorShelF
import Derived.RangeFuncNested
import Derived.RangeFuncBound
import Derived.RangeFuncCalls
import Derived.RangeFuncLeaves
import Derived.RangeFuncBox
import Derived.RangeFuncFrom
import Derived.Shelf.Abstract
import Derived.Shelf.RegionOpen
import Derived.OwnWalkIn
import Derived.TacticsInMore
import Derived.LoopNIn
import Derived.LoopIn
namespace Go.Proofs.YtgppdbiimlbpjaaDoor
set_option linter.unusedVariables false
set_option linter.unusedSimpArgs false
open Go.RowKit

theorem Lq.as {w : World} {o : Option Addr} {n cap : Nat} {x : Nat → Int} {a : Nat → Nat} (h : Lq w o n cap x) (e : ∀ i, i < n → x i = zf a i) : Lq w o n cap (zf a) := ⟨h.1.congr e, h.2⟩
theorem set_two (n : Nat) (x : Nat → Int) (z : Int) : ∃ r c : Int,
    (∀ o cap w, Lq w o n cap x → Calls Tryd.prog 29 #[.slice o n cap, .int .i64 z] w fun e w' => e = .returned (.tuple #[.int .i64 r, .int .i64 c]) ∧ Below w.heap.size w w') ∧
    (∀ o cap w, Lq w o n cap x → Calls Tryd.prog 30 #[.slice o n cap, .int .i64 z] w fun e w' => e = .returned (.tuple #[.int .i64 r, .int .i64 c]) ∧ Below w.heap.size w w') := by
  by_cases h0 : pcode n x = 0
  · obtain ⟨a, ha, he⟩ := good_of h0
    by_cases hz : z < 0 ∨ ((2 ^ n : Nat) : Int) ≤ z
    · exact ⟨0, 2, fun o cap w h => set_out n a ha z hz o cap w (h.as he), fun o cap w h => rset_out n a ha z hz o cap w (h.as he)⟩
    · obtain ⟨s, rfl⟩ := Int.eq_ofNat_of_zero_le (show 0 ≤ z by omega)
      have hs : s < 2 ^ n := by
        have : ¬ ((2 ^ n : Nat) : Int) ≤ (s : Int) := fun h => hz (.inr h)
        exact Nat.lt_of_not_le fun h => this (Int.ofNat_le.2 h)
      exact ⟨_, 0, fun o cap w h => set_good n a ha s hs o cap w (h.as he), fun o cap w h => rset_good n a ha s hs o cap w (h.as he)⟩
  · exact ⟨0, _, fun o cap w h => set_bad n x _ rfl h0 z o cap w h, fun o cap w h => rset_bad n x _ rfl h0 z o cap w h⟩
theorem vec_two (n : Nat) (x : Nat → Int) (m : Nat) (v : Nat → Int) : ∃ (k : Nat) (u : Nat → Int) (c : Int), k ≤ 1000000 ∧
    (∀ o cap p cap' w, Lq w o n cap x → Lz w p m v → Calls Tryd.prog 31 #[.slice o n cap, .slice p m cap'] w (QRes k u c w)) ∧
    (∀ o cap p cap' w, Lq w o n cap x → Lz w p m v → Calls Tryd.prog 32 #[.slice o n cap, .slice p m cap'] w (QRes k u c w)) := by
  by_cases h0 : pcode n x = 0
  · obtain ⟨a, ha, he⟩ := good_of h0
    by_cases hm : m = n
    · subst hm
      exact ⟨m, _, 0, by have := ha.hi; omega, fun o cap p cap' w h h' => vecr_good m a ha v p cap' o cap w (h.as he) h', fun o cap p cap' w h h' => rvecr_good m a ha v p cap' o cap w (h.as he) h'⟩
    · exact ⟨0, _, 15, by omega, fun o cap p cap' w h h' => vecr_shape n m a ha hm o p cap cap' w (h.as he), fun o cap p cap' w h h' => rvecr_shape n m a ha hm o p cap cap' w (h.as he)⟩
  · exact ⟨0, _, _, by omega, fun o cap p cap' w h h' => vecr_bad n x _ rfl h0 m p cap' o cap w h, fun o cap p cap' w h h' => rvecr_bad n x _ rfl h0 m p cap' o cap w h⟩
set_option maxRecDepth 100000 in
set_option maxHeartbeats 4000000 in
theorem acts_ok (n : Nat) (x : Nat → Int) (z : Int) (m : Nat) (v : Nat → Int) (o : Option Addr) (cap : Nat) (p : Option Addr) (cap' : Nat) (w : World) (hL : Lq w o n cap x) (hL' : Lz w p m v) : Calls Tryd.prog 5 #[.slice o n cap, .int .i64 z, .slice p m cap'] w fun e w' => e = .returned (.bool true) ∧ Below w.heap.size w w' := by
  have B := Lib.hid (Below.refl w.heap.size w)
  by_cases h1 : 60 < n
  · have h1z : (60 : Int) < (n : Int) := by omega
    have h1d : decide (60 < n) = true := decide_eq_true h1
    clear hL hL'
    go_enter Tryd.func5, Tryd.ntmps5
    go_wp2_with fail
    refine (awake_ok _).mono ?_
    rintro e W1 ⟨rfl, hb⟩
    replace B := Lib.hid (B.out.trans (Joins.below_le hb B.out.size))
    clear hb 
    go_wp2_with fail
    go_ret
    exact ⟨rfl, B.out⟩
  · by_cases h2 : 60 < m
    · have h1z : ¬ (60 : Int) < (n : Int) := by omega
      have h2z : (60 : Int) < (m : Int) := by omega
      have h1d : decide (60 < n) = false := decide_eq_false h1
      have h2d : decide (60 < m) = true := decide_eq_true h2
      clear hL hL'
      go_enter Tryd.func5, Tryd.ntmps5
      go_wp2_with fail
      refine (awake_ok _).mono ?_
      rintro e W1 ⟨rfl, hb⟩
      replace B := Lib.hid (B.out.trans (Joins.below_le hb B.out.size))
      clear hb 
      go_wp2_with fail
      go_ret
      exact ⟨rfl, B.out⟩
    · have h1z : ¬ (60 : Int) < (n : Int) := by omega
      have h2z : ¬ (60 : Int) < (m : Int) := by omega
      have h1d : decide (60 < n) = false := decide_eq_false h1
      have h2d : decide (60 < m) = false := decide_eq_false h2
      obtain ⟨r, c, hs1, hs2⟩ := set_two n x z
      obtain ⟨k, u, c2, hk, hv1, hv2⟩ := vec_two n x m v
      have Hs1 := Lib.hid hs1
      have Hs2 := Lib.hid hs2
      have Hv1 := Lib.hid hv1
      have Hv2 := Lib.hid hv2
      have Hk := Lib.hid hk
      have La := Lib.hid hL
      have Lv := Lib.hid hL'
      clear hs1 hs2 hv1 hv2 hk hL hL' h1 h2
      go_enter Tryd.func5, Tryd.ntmps5
      go_wp2_with fail
      refine (Hs1.out _ _ _ La.out).mono ?_
      rintro e W1 ⟨rfl, hb⟩
      replace La := Lib.hid (La.out.below hb)
      replace Lv := Lib.hid (Lv.out.below hb)
      replace B := Lib.hid (B.out.trans (Joins.below_le hb B.out.size))
      clear hb 
      go_wp2_with fail
      refine (Hs2.out _ _ _ La.out).mono ?_
      rintro e W2 ⟨rfl, hb⟩
      replace La := Lib.hid (La.out.below hb)
      replace Lv := Lib.hid (Lv.out.below hb)
      replace B := Lib.hid (B.out.trans (Joins.below_le hb B.out.size))
      clear hb 
      go_wp2_with fail
      refine (Hv1.out _ _ _ _ _ La.out Lv.out).mono ?_
      rintro e W3 ⟨o1, p1, rfl, hl, hb⟩
      replace La := Lib.hid (La.out.below hb)
      replace Lv := Lib.hid (Lv.out.below hb)
      replace B := Lib.hid (B.out.trans (Joins.below_le hb B.out.size))
      have A1 := Lib.hid hl
      clear hb hl
      go_wp2_with fail
      refine (Hv2.out _ _ _ _ _ La.out Lv.out).mono ?_
      rintro e W4 ⟨o2, p2, rfl, hl, hb⟩
      replace La := Lib.hid (La.out.below hb)
      replace Lv := Lib.hid (Lv.out.below hb)
      replace A1 := Lib.hid (A1.out.below hb)
      replace B := Lib.hid (B.out.trans (Joins.below_le hb B.out.size))
      have A2 := Lib.hid hl
      clear hb hl
      clear La Lv
      go_wp2_with fail
      refine (awake_ok _).mono ?_
      rintro e W5 ⟨rfl, hb⟩
      replace A1 := Lib.hid (A1.out.below hb)
      replace A2 := Lib.hid (A2.out.below hb)
      replace B := Lib.hid (B.out.trans (Joins.below_le hb B.out.size))
      clear hb 
      go_wp2_with fail
      refine (equal_any k k Hk.out u u _ _ _ _ _ A1.out.1 A2.out.1).mono ?_
      rw [eqb_self (fun _ _ => rfl)]
      rintro e W6 ⟨rfl, hb⟩
      replace A1 := Lib.hid (A1.out.below hb)
      replace A2 := Lib.hid (A2.out.below hb)
      replace B := Lib.hid (B.out.trans (Joins.below_le hb B.out.size))
      clear hb 
      clear A1 A2
      go_wp2_with fail
      go_ret
      exact ⟨rfl, B.out⟩

end Go.Proofs.YtgppdbiimlbpjaaDoor
