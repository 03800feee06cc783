/- PermutationComposes. -/
import Derived.Test.YtgppdbiimlbpjaaDoorRxF
import Derived.WalkKit
import Derived.WalkSpells
import Derived.WalkLawsBesides
import Derived.Handy
import Derived.Deep.QuietTactic
import Derived.BigQuiet
import Derived.Outline
import Derived.Laws.BitsAllLaws
import Derived.IntWalk
import Derived.Lib.SmallJoins
import Derived.Lib.Hide
import Derived.Deep.DeepCutAuto
import Derived.LoopTactic
import Derived.Deep.RegionWith
import Derived.Laws.CopyOwn
import Derived.Maps.OwnOps
import Derived.Maps.OwnSet
import Derived.Laws.OwnMore
import Derived.Maps.AppendAt
import Derived.Test.YtgppdbiimlbpjaaDoorShelF
import Derived.RangeFuncNested
import Derived.RangeFuncBound
import Derived.RangeFuncCalls
import Derived.RangeFuncLeaves
import Derived.RangeFuncBox
import Derived.RangeFuncFrom
import Derived.Shelf.Abstract
import Derived.Shelf.RegionOpen
import Derived.OwnWalkIn
import Derived.TacticsInMore
import Derived.LoopNIn
import Derived.LoopIn
namespace Go.Proofs.YtgppdbiimlbpjaaDoor
set_option linter.unusedVariables false
set_option linter.unusedSimpArgs false
open Go.RowKit


/-- The lists, as integers. -/
def il (H : List (List Nat)) : Nat → List Int := fun c => ints (H.getD c [])
theorem ints_len (l : List Nat) : (ints l).length = l.length := by simp [ints]
theorem ints_at (l : List Nat) (j : Nat) : (ints l).getD j 0 = zf (fun_ l) j := by
  unfold ints zf fun_
  rw [List.getD_eq_getElem?_getD, List.getD_eq_getElem?_getD, List.getElem?_map]
  cases l[j]? <;> rfl
theorem Lp.ls {w : World} {o : Option Addr} {k n : Nat} {H : List (List Nat)} (h : Lp w o k n H) (hl : ∀ l ∈ H, l.length = n) : Ls w o k (il H) := fun hn => by
  obtain ⟨b, off, e, hb, hc⟩ := h.2 hn
  refine ⟨b, off, e, hb, fun c hck => ?_⟩
  obtain ⟨oc, cc, e1, e2⟩ := hc c hck
  have hlen : (il H c).length = n := by
    unfold il
    rw [ints_len, List.getD_eq_getElem?_getD, List.getElem?_eq_getElem (by have := h.1; omega)]
    exact hl _ (List.getElem_mem _)
  refine ⟨oc, cc, by rw [hlen]; exact e1, ?_⟩
  rw [hlen]
  exact e2.congr fun j _ => (ints_at _ j).symm
/-- A list of lists and an error come back. -/
def LLRes (k : Nat) (L : Nat → List Int) (c : Int) (w : World) (e : Ending) (w' : World) : Prop := ∃ o cap, e = .returned (.tuple #[.slice o k cap, .int .i64 c]) ∧ Ls w' o k L ∧ Below w.heap.size w w'
theorem ll_of {n : Nat} {H : List (List Nat)} {c : Int} {w w' : World} {e : Ending} (hl : ∀ l ∈ H, l.length = n) (h : ∃ o cap, e = .returned (.tuple #[.slice o H.length cap, .int .i64 c]) ∧ Lp w' o H.length n H ∧ Below w.heap.size w w') : LLRes H.length (il H) c w e w' := by
  obtain ⟨o, cap, rfl, hp, hb⟩ := h
  exact ⟨o, cap, rfl, hp.ls hl, hb⟩
theorem ll_bad {c : Int} {w w' : World} {e : Ending} (h : QRes 0 (fun _ => 0) c w e w') : LLRes 0 (il []) c w e w' := by
  obtain ⟨o, cap, rfl, _, hb⟩ := h
  exact ⟨o, cap, rfl, Ls.nil, hb⟩
theorem samelists_b (k : Nat) (hk : k ≤ 65536) (L : Nat → List Int) (hl : ∀ c, c < k → (L c).length ≤ 1000000) (o p : Option Addr) (cap cap' : Nat) (w : World) (hL : Ls w o k L) (hL' : Ls w p k L) : Calls Tryd.prog 28 #[.slice o k cap, .slice p k cap'] w fun e w' => e = .returned (.bool true) ∧ Below w.heap.size w w' :=
  (samelists_ok k hk L hl o p cap cap' w hL hL').mono fun e w' ⟨h, d, e⟩ => ⟨h, by subst e; exact below_dn d (Below.refl _ _)⟩
theorem il_len {n : Nat} {H : List (List Nat)} (hn : n ≤ 5) (hl : ∀ l ∈ H, l.length = n) : ∀ c, c < H.length → (il H c).length ≤ 1000000 := fun c hc => by
  unfold il
  rw [ints_len, List.getD_eq_getElem?_getD, List.getElem?_eq_getElem hc]
  have := hl _ (List.getElem_mem hc)
  simp only [Option.getD_some]
  omega
theorem all_two (z : Int) : ∃ (k : Nat) (L : Nat → List Int) (c : Int), k ≤ 65536 ∧ (∀ c, c < k → (L c).length ≤ 1000000) ∧ (∀ w, Calls Tryd.prog 26 #[.int .i64 z] w (LLRes k L c w)) ∧ (∀ w, Calls Tryd.prog 27 #[.int .i64 z] w (LLRes k L c w)) := by
  by_cases h : z < 1 ∨ 5 < z
  · exact ⟨0, il [], 2, by omega, fun c hc => absurd hc (Nat.not_lt_zero _), fun w => (all_bad z h w).mono fun _ _ => ll_bad, fun w => (rall_bad z h w).mono fun _ _ => ll_bad⟩
  · obtain ⟨n, rfl⟩ := Int.eq_ofNat_of_zero_le (show 0 ≤ z by omega)
    have h1 : 1 ≤ n := by omega
    have h5 : n ≤ 5 := by omega
    have hl : ∀ l ∈ pl n, l.length = n := fun l hm => (pl_good h1 h5 hm).1
    have h120 := (pl_nodup ⟨n, by omega⟩).2
    change (pl n).length ≤ 120 at h120
    exact ⟨(pl n).length, il (pl n), 0, by omega, il_len h5 hl, fun w => (all_good n h1 h5 w).mono fun _ _ ⟨o, cap, e, hp, hb⟩ => ll_of hl ⟨o, cap, e, hp.lp, hb⟩, fun w => (rall_good n h1 h5 w).mono fun _ _ ⟨o, cap, e, hp, hb⟩ => ll_of hl ⟨o, cap, e, hp.lp, hb⟩⟩
set_option maxRecDepth 100000 in
set_option maxHeartbeats 4000000 in
theorem composes_ok (n m : Nat) (x y : Nat → Int) (z : Int) (o p : Option Addr) (cap cap' : Nat) (w : World) (hL : Lq w o n cap x) (hL' : Lq w p m cap' y) : Calls Tryd.prog 4 #[.slice o n cap, .slice p m cap', .int .i64 z] w fun e w' => e = .returned (.bool true) ∧ Below w.heap.size w w' := by
  have B := Lib.hid (Below.refl w.heap.size w)
  by_cases h1 : 60 < n
  · have h1z : (60 : Int) < (n : Int) := by omega
    have h1d : decide (60 < n) = true := decide_eq_true h1
    clear hL hL'
    go_enter Tryd.func4, Tryd.ntmps4
    go_wp2_with fail
    refine (awake_ok _).mono ?_
    rintro e W1 ⟨rfl, hb⟩
    replace B := Lib.hid (B.out.trans (Joins.below_le hb B.out.size))
    clear hb 
    go_wp2_with fail
    go_ret
    exact ⟨rfl, B.out⟩
  · by_cases h2 : 60 < m
    · have h1z : ¬ (60 : Int) < (n : Int) := by omega
      have h2z : (60 : Int) < (m : Int) := by omega
      have h1d : decide (60 < n) = false := decide_eq_false h1
      have h2d : decide (60 < m) = true := decide_eq_true h2
      clear hL hL'
      go_enter Tryd.func4, Tryd.ntmps4
      go_wp2_with fail
      refine (awake_ok _).mono ?_
      rintro e W1 ⟨rfl, hb⟩
      replace B := Lib.hid (B.out.trans (Joins.below_le hb B.out.size))
      clear hb 
      go_wp2_with fail
      go_ret
      exact ⟨rfl, B.out⟩
    · have h1z : ¬ (60 : Int) < (n : Int) := by omega
      have h2z : ¬ (60 : Int) < (m : Int) := by omega
      have h1d : decide (60 < n) = false := decide_eq_false h1
      have h2d : decide (60 < m) = false := decide_eq_false h2
      obtain ⟨k, u, c, hk, hc1, hc2⟩ := comp_two n m x y
      obtain ⟨k2, u2, c2, hk2, hi1, hi2⟩ := ident_two z
      obtain ⟨k3, L, c3, hk3, hl3, ha1, ha2⟩ := all_two z
      have Hc1 := Lib.hid hc1
      have Hc2 := Lib.hid hc2
      have Hi1 := Lib.hid hi1
      have Hi2 := Lib.hid hi2
      have Ha1 := Lib.hid ha1
      have Ha2 := Lib.hid ha2
      have Hk := Lib.hid hk
      have Hk2 := Lib.hid hk2
      have Hk3 := Lib.hid hk3
      have Hl3 := Lib.hid hl3
      have La := Lib.hid hL
      have Lv := Lib.hid hL'
      clear hc1 hc2 hi1 hi2 ha1 ha2 hk hk2 hk3 hl3 hL hL' h1 h2
      go_enter Tryd.func4, Tryd.ntmps4
      go_wp2_with fail
      refine (Hc1.out _ _ _ _ _ La.out Lv.out).mono ?_
      rintro e W1 ⟨o1, p1, rfl, hl, hb⟩
      replace La := Lib.hid (La.out.below hb)
      replace Lv := Lib.hid (Lv.out.below hb)
      replace B := Lib.hid (B.out.trans (Joins.below_le hb B.out.size))
      have A1 := Lib.hid hl
      clear hb hl
      go_wp2_with fail
      refine (Hc2.out _ _ _ _ _ La.out Lv.out).mono ?_
      rintro e W2 ⟨o2, p2, rfl, hl, hb⟩
      replace La := Lib.hid (La.out.below hb)
      replace Lv := Lib.hid (Lv.out.below hb)
      replace A1 := Lib.hid (A1.out.below hb)
      replace B := Lib.hid (B.out.trans (Joins.below_le hb B.out.size))
      have A2 := Lib.hid hl
      clear hb hl
      clear La Lv
      go_wp2_with fail
      refine (Hi1.out _).mono ?_
      rintro e W3 ⟨o3, p3, rfl, hl, hb⟩
      replace A1 := Lib.hid (A1.out.below hb)
      replace A2 := Lib.hid (A2.out.below hb)
      replace B := Lib.hid (B.out.trans (Joins.below_le hb B.out.size))
      have I1 := Lib.hid hl
      clear hb hl
      go_wp2_with fail
      refine (Hi2.out _).mono ?_
      rintro e W4 ⟨o4, p4, rfl, hl, hb⟩
      replace A1 := Lib.hid (A1.out.below hb)
      replace A2 := Lib.hid (A2.out.below hb)
      replace I1 := Lib.hid (I1.out.below hb)
      replace B := Lib.hid (B.out.trans (Joins.below_le hb B.out.size))
      have I2 := Lib.hid hl
      clear hb hl
      go_wp2_with fail
      refine (Ha1.out _).mono ?_
      rintro e W5 ⟨o5, p5, rfl, hl, hb⟩
      replace A1 := Lib.hid (A1.out.below hb)
      replace A2 := Lib.hid (A2.out.below hb)
      replace I1 := Lib.hid (I1.out.below hb)
      replace I2 := Lib.hid (I2.out.below hb)
      replace B := Lib.hid (B.out.trans (Joins.below_le hb B.out.size))
      have L1 := Lib.hid hl
      clear hb hl
      go_wp2_with fail
      refine (Ha2.out _).mono ?_
      rintro e W6 ⟨o6, p6, rfl, hl, hb⟩
      replace A1 := Lib.hid (A1.out.below hb)
      replace A2 := Lib.hid (A2.out.below hb)
      replace I1 := Lib.hid (I1.out.below hb)
      replace I2 := Lib.hid (I2.out.below hb)
      replace L1 := Lib.hid (L1.out.below hb)
      replace B := Lib.hid (B.out.trans (Joins.below_le hb B.out.size))
      have L2 := Lib.hid hl
      clear hb hl
      go_wp2_with fail
      refine (awake_ok _).mono ?_
      rintro e W7 ⟨rfl, hb⟩
      replace A1 := Lib.hid (A1.out.below hb)
      replace A2 := Lib.hid (A2.out.below hb)
      replace I1 := Lib.hid (I1.out.below hb)
      replace I2 := Lib.hid (I2.out.below hb)
      replace L1 := Lib.hid (L1.out.below hb)
      replace L2 := Lib.hid (L2.out.below hb)
      replace B := Lib.hid (B.out.trans (Joins.below_le hb B.out.size))
      clear hb 
      go_wp2_with fail
      refine (equal_any k k Hk.out u u _ _ _ _ _ A1.out.1 A2.out.1).mono ?_
      rw [eqb_self (fun _ _ => rfl)]
      rintro e W8 ⟨rfl, hb⟩
      replace A1 := Lib.hid (A1.out.below hb)
      replace A2 := Lib.hid (A2.out.below hb)
      replace I1 := Lib.hid (I1.out.below hb)
      replace I2 := Lib.hid (I2.out.below hb)
      replace L1 := Lib.hid (L1.out.below hb)
      replace L2 := Lib.hid (L2.out.below hb)
      replace B := Lib.hid (B.out.trans (Joins.below_le hb B.out.size))
      clear hb 
      clear A1 A2
      go_wp2_with fail
      refine (equal_any k2 k2 Hk2.out u2 u2 _ _ _ _ _ I1.out.1 I2.out.1).mono ?_
      rw [eqb_self (fun _ _ => rfl)]
      rintro e W9 ⟨rfl, hb⟩
      replace I1 := Lib.hid (I1.out.below hb)
      replace I2 := Lib.hid (I2.out.below hb)
      replace L1 := Lib.hid (L1.out.below hb)
      replace L2 := Lib.hid (L2.out.below hb)
      replace B := Lib.hid (B.out.trans (Joins.below_le hb B.out.size))
      clear hb 
      clear I1 I2
      go_wp2_with fail
      refine (samelists_b k3 Hk3.out L Hl3.out _ _ _ _ _ L1.out L2.out).mono ?_
      rintro e W10 ⟨rfl, hb⟩
      replace L1 := Lib.hid (L1.out.below hb)
      replace L2 := Lib.hid (L2.out.below hb)
      replace B := Lib.hid (B.out.trans (Joins.below_le hb B.out.size))
      clear hb 
      clear L1 L2
      go_wp2_with fail
      go_ret
      exact ⟨rfl, B.out⟩

end Go.Proofs.YtgppdbiimlbpjaaDoor
