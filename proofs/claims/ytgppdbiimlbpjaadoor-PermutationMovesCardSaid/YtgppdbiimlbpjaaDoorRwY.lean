/- The specification's Among. -/
import Derived.Test.YtgppdbiimlbpjaaDoorRwX
import Derived.WalkKit
import Derived.WalkSpells
import Derived.WalkLawsBesides
import Derived.Handy
import Derived.Deep.QuietTactic
import Derived.BigQuiet
import Derived.Outline
import Derived.Laws.BitsAllLaws
import Derived.IntWalk
import Derived.Lib.SmallJoins
import Derived.Lib.Hide
import Derived.Deep.DeepCutAuto
import Derived.LoopTactic
import Derived.Deep.RegionWith
import Derived.Laws.CopyOwn
import Derived.Maps.OwnOps
import Derived.Maps.OwnSet
import Derived.Laws.OwnMore
import Derived.Maps.AppendAt
import Derived.Test.YtgppdbiimlbpjaaDoorShelF
import Derived.RangeFuncNested
import Derived.RangeFuncBound
import Derived.RangeFuncCalls
import Derived.RangeFuncLeaves
import Derived.RangeFuncBox
import Derived.RangeFuncFrom
import Derived.Shelf.Abstract
import Derived.Shelf.RegionOpen
import Derived.OwnWalkIn
import Derived.TacticsInMore
import Derived.LoopNIn
import Derived.LoopIn
namespace Go.Proofs.YtgppdbiimlbpjaaDoor
set_option linter.unusedVariables false
set_option linter.unusedSimpArgs false
open Go.RowKit

/-- Whether one of the first K lists is the list y. -/
def amg (K : Nat) (nc : Nat → Nat) (xc : Nat → Nat → Int) (m : Nat) (y : Nat → Int) : Bool := decide (∃ c, c < K ∧ eqb (nc c) (xc c) m y = true)
/-- A slice of K slices of integers, without their room. -/
def Lv (w : World) (o : Option Addr) (K : Nat) (oc : Nat → Option Addr) (nc cc : Nat → Nat) (xc : Nat → Nat → Int) : Prop := 0 < K → ∃ b off, o = some ⟨b, off, none⟩ ∧ b < w.heap.size ∧ ∀ c, c < K → w.cell? ⟨b, off + c, none⟩ = some (.slice (oc c) (nc c) (cc c)) ∧ Lz w (oc c) (nc c) (xc c)
set_option maxHeartbeats 1000000 in
theorem among_any (K : Nat) (hK : K ≤ 100000) (o : Option Addr) (cap : Nat) (oc : Nat → Option Addr) (nc cc : Nat → Nat) (hnc : ∀ c, c < K → nc c ≤ 1000000) (xc : Nat → Nat → Int) (p : Option Addr) (m cap' : Nat) (y : Nat → Int) (w : World) (hL : Lv w o K oc nc cc xc) (hL' : Lz w p m y) :
    Calls Tryd.prog 45 #[.slice o K cap, .slice p m cap'] w fun e w' => e = .returned (.bool (amg K nc xc m y)) ∧ Below w.heap.size w w' := by
  have HL := Lib.hid hL
  have HL' := Lib.hid hL'
  have HNc := Lib.hid hnc
  obtain ⟨r, hr⟩ : ∃ r, amg K nc xc m y = r := ⟨_, rfl⟩
  have HR := Lib.hid hr
  rw [hr]
  clear hL hL' hnc hr
  go_enter Tryd.func45, Tryd.ntmps45
  go_wp2_with fail
  go_loopw [5] (fun j wr => ∃ c : Nat, c ≤ K ∧ j = .int .i64 (c : Int) ∧ (∀ d, d < c → eqb (nc d) (xc d) m y = false) ∧ Below w.heap.size w wr) (fun j _ => K - (intOf j).toNat)
  case atStart => exact ⟨0, by omega, by first | trivial | rfl, fun d h => absurd h (Nat.not_lt_zero _), Below.refl _ _⟩
  case round =>
    obtain ⟨c, hc, rfl, hno, hbe⟩ := hrel
    have HB := Lib.hid hbe
    have HNo := Lib.hid hno
    clear hbe hno
    by_cases hlt : c < K
    · obtain ⟨bS, oS, rfl, hbS, hcS⟩ := HL.out (by omega)
      obtain ⟨e1, l1⟩ := hcS c hlt
      have e2 := (HB.out.cell (p := ⟨bS, oS + c, none⟩) hbS).trans e1
      have HCk := Lib.hid (same_any (nc c) m (HNc.out c hlt) (xc c) y (oc c) p (cc c) cap' wr (l1.below HB.out) (HL'.out.below HB.out))
      obtain ⟨q, hq⟩ : ∃ q, eqb (nc c) (xc c) m y = q := ⟨_, rfl⟩
      rw [hq] at HCk
      have HQ := Lib.hid hq
      obtain ⟨oo, ho⟩ : ∃ x, oc c = x := ⟨_, rfl⟩
      obtain ⟨n1, hm⟩ : ∃ x, nc c = x := ⟨_, rfl⟩
      obtain ⟨kk, hk⟩ : ∃ x, cc c = x := ⟨_, rfl⟩
      rw [ho, hm, hk] at e2 HCk
      have hc1 : (c : Int) < (K : Int) := by omega
      clear hcS e1 l1 hq ho hm hk
      cases q with
      | true =>
        have h0 : r = true := by rw [← HR.out]; exact decide_eq_true ⟨c, hlt, HQ.out⟩
        subst h0
        go_wp2_with fail
        refine HCk.out.mono ?_
        rintro e w1 ⟨rfl, hb1⟩
        have HB1 := Lib.hid (HB.out.trans (Joins.below_le hb1 HB.out.size))
        clear hb1
        go_wp2_with fail
        go_ret
        exact ⟨rfl, HB1.out⟩
      | false =>
        go_wp2_with fail
        refine HCk.out.mono ?_
        rintro e w1 ⟨rfl, hb1⟩
        have HB1 := Lib.hid (HB.out.trans (Joins.below_le hb1 HB.out.size))
        clear hb1
        go_wp2_with fail
        go_roundw
        case rel =>
          refine ⟨c + 1, by omega, by go_num, fun d hd => ?_, HB1.out⟩
          by_cases e : d = c
          · subst e; exact HQ.out
          · exact HNo.out d (by omega)
        case measure => simp [intOf]; omega
    · have e : c = K := by omega
      subst e
      have h0 : r = false := by rw [← HR.out]; exact decide_eq_false fun ⟨d, hd, h⟩ => by rw [HNo.out d hd] at h; cases h
      subst h0
      clear hlt
      go_wp2_with fail
      go_ret
      exact ⟨rfl, HB.out⟩

end Go.Proofs.YtgppdbiimlbpjaaDoor
