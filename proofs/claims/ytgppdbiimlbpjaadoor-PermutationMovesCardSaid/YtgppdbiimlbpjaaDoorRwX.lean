/- The specification's List and Among. -/
import Derived.Test.YtgppdbiimlbpjaaDoorRwW
import Derived.WalkKit
import Derived.WalkSpells
import Derived.WalkLawsBesides
import Derived.Handy
import Derived.Deep.QuietTactic
import Derived.BigQuiet
import Derived.Outline
import Derived.Laws.BitsAllLaws
import Derived.IntWalk
import Derived.Lib.SmallJoins
import Derived.Lib.Hide
import Derived.Deep.DeepCutAuto
import Derived.LoopTactic
import Derived.Deep.RegionWith
import Derived.Laws.CopyOwn
import Derived.Maps.OwnOps
import Derived.Maps.OwnSet
import Derived.Laws.OwnMore
import Derived.Maps.AppendAt
import Derived.Test.YtgppdbiimlbpjaaDoorShelF
import Derived.RangeFuncNested
import Derived.RangeFuncBound
import Derived.RangeFuncCalls
import Derived.RangeFuncLeaves
import Derived.RangeFuncBox
import Derived.RangeFuncFrom
import Derived.Shelf.Abstract
import Derived.Shelf.RegionOpen
import Derived.OwnWalkIn
import Derived.TacticsInMore
import Derived.LoopNIn
import Derived.LoopIn
namespace Go.Proofs.YtgppdbiimlbpjaaDoor
set_option linter.unusedVariables false
set_option linter.unusedSimpArgs false
open Go.RowKit

/-- A slice of K slices of integers. -/
def Lw (w : World) (o : Option Addr) (K : Nat) (oc : Nat → Option Addr) (nc cc : Nat → Nat) (xc : Nat → Nat → Int) : Prop := 0 < K → ∃ b off, o = some ⟨b, off, none⟩ ∧ b < w.heap.size ∧ ∀ c, c < K → w.cell? ⟨b, off + c, none⟩ = some (.slice (oc c) (nc c) (cc c)) ∧ Lq w (oc c) (nc c) (cc c) (xc c)
theorem rlist_range (z : Int) (h : z < 1 ∨ 5 < z) (o : Option Addr) (K cap : Nat) (w : World) : Calls Tryd.prog 44 #[.int .i64 z, .slice o K cap] w fun e w' => e = .returned (.int .i64 2) ∧ Below w.heap.size w w' := by
  rcases h with h | h
  · go_enter Tryd.func44, Tryd.ntmps44
    go_wp2_with fail
    go_ret
    exact ⟨rfl, Below.refl _ _⟩
  · have h1 : ¬ z < 1 := by omega
    go_enter Tryd.func44, Tryd.ntmps44
    go_wp2_with fail
    go_ret
    exact ⟨rfl, Below.refl _ _⟩
theorem rlist_many (n : Nat) (h1 : 1 ≤ n) (h5 : n ≤ 5) (o : Option Addr) (K cap : Nat) (hK : 1024 < K) (w : World) : Calls Tryd.prog 44 #[.int .i64 (n : Int), .slice o K cap] w fun e w' => e = .returned (.int .i64 5) ∧ Below w.heap.size w w' := by
  have hKz : (1024 : Int) < (K : Int) := by omega
  have g1 : ¬ (n : Int) < 1 := by omega
  have g2 : ¬ 5 < (n : Int) := by omega
  go_enter Tryd.func44, Tryd.ntmps44
  go_wp2_with fail
  go_ret
  exact ⟨rfl, Below.refl _ _⟩
set_option maxHeartbeats 1000000 in
theorem rlist_any (n : Nat) (h1 : 1 ≤ n) (h5 : n ≤ 5) (o : Option Addr) (K cap : Nat) (hK : K ≤ 1024) (oc : Nat → Option Addr) (nc cc : Nat → Nat) (xc : Nat → Nat → Int) (w : World) (hL : Lw w o K oc nc cc xc) :
    Calls Tryd.prog 44 #[.int .i64 (n : Int), .slice o K cap] w fun e w' => e = .returned (.int .i64 (lgo n nc xc K 0)) ∧ Below w.heap.size w w' := by
  have HL := Lib.hid hL
  obtain ⟨r, hr⟩ : ∃ r, lgo n nc xc K 0 = r := ⟨_, rfl⟩
  have HR := Lib.hid hr
  rw [hr]
  have hKz : ¬ (1024 : Int) < (K : Int) := by omega
  have g1 : ¬ (n : Int) < 1 := by omega
  have g2 : ¬ 5 < (n : Int) := by omega
  clear hL hr
  go_enter Tryd.func44, Tryd.ntmps44
  go_wp2_with fail
  go_loopw [5] (fun j wr => ∃ c : Nat, c ≤ K ∧ j = .int .i64 (c : Int) ∧ lgo n nc xc (K - c) c = r ∧ Below w.heap.size w wr) (fun j _ => K - (intOf j).toNat)
  case atStart => exact ⟨0, by omega, by first | trivial | rfl, HR.out, Below.refl _ _⟩
  case round =>
    obtain ⟨c, hc, rfl, hre, hbe⟩ := hrel
    have HB := Lib.hid hbe
    clear hbe
    by_cases hlt : c < K
    · obtain ⟨bS, oS, rfl, hbS, hcS⟩ := HL.out (by omega)
      obtain ⟨e1, l1⟩ := hcS c hlt
      have e2 := (HB.out.cell (p := ⟨bS, oS + c, none⟩) hbS).trans e1
      have HCk := Lib.hid (rcheck_any (nc c) (xc c) (oc c) (cc c) wr (l1.1.below HB.out))
      rw [lgo_step hlt] at hre
      obtain ⟨p, hp⟩ : ∃ p, pcode (nc c) (xc c) = p := ⟨_, rfl⟩
      rw [hp] at HCk hre
      obtain ⟨oo, ho⟩ : ∃ x, oc c = x := ⟨_, rfl⟩
      obtain ⟨m, hm⟩ : ∃ x, nc c = x := ⟨_, rfl⟩
      obtain ⟨kk, hk⟩ : ∃ x, cc c = x := ⟨_, rfl⟩
      rw [ho, hm, hk] at e2 HCk e1
      rw [hm] at hre
      have E1 := Lib.hid e1
      have hc1 : (c : Int) < (K : Int) := by omega
      clear hcS e1 l1 hp ho hm hk
      by_cases hp0 : p = 0
      · subst hp0
        rw [if_neg (by simp)] at hre
        by_cases hmn : m = n
        · subst hmn
          rw [if_neg (by simp)] at hre
          have HRe := Lib.hid hre
          clear hre
          go_wp2_with fail
          refine HCk.out.mono ?_
          rintro e w1 ⟨rfl, hb1⟩
          have HB1 := Lib.hid (HB.out.trans (Joins.below_le hb1 HB.out.size))
          have e3 := (HB1.out.cell (p := ⟨bS, oS + c, none⟩) hbS).trans E1.out
          clear hb1 e2
          go_wp2_with fail
          go_roundw
          case rel => exact ⟨c + 1, by omega, by go_num, HRe.out, HB1.out⟩
          case measure => simp [intOf]; omega
        · rw [if_pos hmn] at hre
          have g3 : (m == n) = false := by simpa using hmn
          have g4 : ((m : Int) != (n : Int)) = true := by rw [bne_iff_ne]; omega
          subst hre
          clear hmn
          go_wp2_with fail
          refine HCk.out.mono ?_
          rintro e w1 ⟨rfl, hb1⟩
          have HB1 := Lib.hid (HB.out.trans (Joins.below_le hb1 HB.out.size))
          have e3 := (HB1.out.cell (p := ⟨bS, oS + c, none⟩) hbS).trans E1.out
          clear hb1 e2
          go_wp2_with fail
          go_ret
          exact ⟨rfl, HB1.out⟩
      · rw [if_pos hp0] at hre
        subst hre
        have g3 : (p != 0) = true := by rw [bne_iff_ne]; exact hp0
        clear hp0
        go_wp2_with fail
        refine HCk.out.mono ?_
        rintro e w1 ⟨rfl, hb1⟩
        have HB1 := Lib.hid (HB.out.trans (Joins.below_le hb1 HB.out.size))
        clear hb1 e2
        go_wp2_with fail
        go_ret
        exact ⟨rfl, HB1.out⟩
    · have e : c = K := by omega
      subst e
      rw [Nat.sub_self] at hre
      have h0 : r = 0 := hre.symm
      subst h0
      clear hre hlt
      go_wp2_with fail
      go_ret
      exact ⟨rfl, HB.out⟩

end Go.Proofs.YtgppdbiimlbpjaaDoor
