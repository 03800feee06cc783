/- Errors of Format and Generate. -/
import Derived.Test.YtgppdbiimlbpjaaDoorRwV
import Derived.WalkKit
import Derived.WalkSpells
import Derived.WalkLawsBesides
import Derived.Handy
import Derived.Deep.QuietTactic
import Derived.BigQuiet
import Derived.Outline
import Derived.Laws.BitsAllLaws
import Derived.IntWalk
import Derived.Lib.SmallJoins
import Derived.Lib.Hide
import Derived.Deep.DeepCutAuto
import Derived.LoopTactic
import Derived.Deep.RegionWith
import Derived.Laws.CopyOwn
import Derived.Maps.OwnOps
import Derived.Maps.OwnSet
import Derived.Laws.OwnMore
import Derived.Maps.AppendAt
import Derived.Test.YtgppdbiimlbpjaaDoorShelF
import Derived.RangeFuncNested
import Derived.RangeFuncBound
import Derived.RangeFuncCalls
import Derived.RangeFuncLeaves
import Derived.RangeFuncBox
import Derived.RangeFuncFrom
import Derived.Shelf.Abstract
import Derived.Shelf.RegionOpen
import Derived.OwnWalkIn
import Derived.TacticsInMore
import Derived.LoopNIn
import Derived.LoopIn
namespace Go.Proofs.YtgppdbiimlbpjaaDoor
set_option linter.unusedVariables false
set_option linter.unusedSimpArgs false
open Go.RowKit

theorem fmt_bad (n : Nat) (x : Nat → Int) (c : Int) (hc : pcode n x = c) (h0 : c ≠ 0) (o : Option Addr) (cap : Nat) (w : World) (hL : Lq w o n cap x) : Calls Tryd.prog 36 #[.slice o n cap] w fun e w' => e = .returned (.tuple #[.string ⟨#[]⟩, .int .i64 c]) ∧ Below w.heap.size w w' := by
  have H := Lib.hid (check_any n x o cap w hL)
  rw [hc] at H
  have h1 : (c != 0) = true := by rw [bne_iff_ne]; exact h0
  clear hL hc h0
  go_enter Tryd.func36, Tryd.ntmps36
  go_wp2_with fail
  refine H.out.mono ?_
  rintro e w' ⟨rfl, rfl⟩
  go_wp2_with fail
  go_ret2
  exact ⟨rfl, Below.refl _ _⟩
/-- The number of the first error of m lists from c on. -/
def lgo (n : Nat) (nc : Nat → Nat) (xc : Nat → Nat → Int) : Nat → Nat → Int
  | 0, _ => 0
  | m + 1, c => if pcode (nc c) (xc c) ≠ 0 then pcode (nc c) (xc c) else if nc c ≠ n then 22 else lgo n nc xc m (c + 1)
theorem lgo_step {n K c : Nat} {nc : Nat → Nat} {xc : Nat → Nat → Int} (h : c < K) : lgo n nc xc (K - c) c = if pcode (nc c) (xc c) ≠ 0 then pcode (nc c) (xc c) else if nc c ≠ n then 22 else lgo n nc xc (K - (c + 1)) (c + 1) := by
  obtain ⟨m, hm⟩ : ∃ m, K - c = m + 1 := ⟨K - c - 1, by omega⟩
  have hm2 : K - (c + 1) = m := by omega
  rw [hm, hm2]; rfl
theorem gen_range (z : Int) (h : z < 1 ∨ 5 < z) (o : Option Addr) (K cap : Nat) (w : World) : Calls Tryd.prog 34 #[.int .i64 z, .slice o K cap] w (QRes 0 (fun _ => 0) 2 w) := by
  have H := Lib.hid (ident_bad z h w)
  clear h
  go_enter Tryd.func34, Tryd.ntmps34
  go_wp2_with fail
  refine H.out.mono ?_
  rintro e w1 ⟨o1, c1, rfl, hq, hb⟩
  have HB := Lib.hid hb
  clear hq hb
  go_wp2_with fail
  go_ret2
  exact ⟨_, _, rfl, ⟨Lz.nil, by omega⟩, HB.out⟩
theorem gen_many (n : Nat) (h1 : 1 ≤ n) (h5 : n ≤ 5) (o : Option Addr) (K cap : Nat) (hK : 1024 < K) (w : World) : Calls Tryd.prog 34 #[.int .i64 (n : Int), .slice o K cap] w (QRes 0 (fun _ => 0) 5 w) := by
  have H := Lib.hid (ident_good n h1 h5 w)
  have hKz : (1024 : Int) < (K : Int) := by omega
  go_enter Tryd.func34, Tryd.ntmps34
  go_wp2_with fail
  refine H.out.mono ?_
  rintro e w1 ⟨o1, c1, rfl, hq, hb⟩
  have HB := Lib.hid hb
  clear hq hb
  go_wp2_with fail
  go_ret2
  exact ⟨_, _, rfl, ⟨Lz.nil, by omega⟩, HB.out⟩
set_option maxHeartbeats 1000000 in
theorem gen_wrong (n : Nat) (h1 : 1 ≤ n) (h5 : n ≤ 5) (o : Option Addr) (K cap : Nat) (hK : K ≤ 1024) (oc : Nat → Option Addr) (nc cc : Nat → Nat) (xc : Nat → Nat → Int) (w : World) (hL : 0 < K → ∃ b off, o = some ⟨b, off, none⟩ ∧ b < w.heap.size ∧ ∀ c, c < K → w.cell? ⟨b, off + c, none⟩ = some (.slice (oc c) (nc c) (cc c)) ∧ Lq w (oc c) (nc c) (cc c) (xc c)) (r : Int) (hr : lgo n nc xc K 0 = r) (h0 : r ≠ 0) :
    Calls Tryd.prog 34 #[.int .i64 (n : Int), .slice o K cap] w (QRes 0 (fun _ => 0) r w) := by
  have H := Lib.hid (ident_good n h1 h5 w)
  have HL := Lib.hid hL
  have HR := Lib.hid hr
  have hKz : ¬ (1024 : Int) < (K : Int) := by omega
  clear hL hr
  go_enter Tryd.func34, Tryd.ntmps34
  go_wp2_with fail
  refine H.out.mono ?_
  rintro e w1 ⟨o1, c1, rfl, hq, hb⟩
  have HB := Lib.hid hb
  clear hq hb
  go_wp2_with fail
  go_loopw [30] (fun j wr => ∃ c : Nat, c ≤ K ∧ j = .int .i64 (c : Int) ∧ lgo n nc xc (K - c) c = r ∧ ∃ d, wr = w1.drewN d) (fun j _ => K - (intOf j).toNat)
  case atStart => exact ⟨0, by omega, by first | trivial | rfl, HR.out, 0, rfl⟩
  case round =>
    obtain ⟨c, hc, rfl, hre, d, rfl⟩ := hrel
    by_cases hlt : c < K
    · obtain ⟨bS, oS, rfl, hbS, hcS⟩ := HL.out (by omega)
      obtain ⟨e1, l1⟩ := hcS c hlt
      have e2 := (HB.out.cell (p := ⟨bS, oS + c, none⟩) hbS).trans e1
      have HCk := Lib.hid (check_any (nc c) (xc c) (oc c) (cc c) (w1.drewN d) ((l1.below HB.out).below (below_dn d (Below.refl _ _))))
      rw [lgo_step hlt] at hre
      obtain ⟨p, hp⟩ : ∃ p, pcode (nc c) (xc c) = p := ⟨_, rfl⟩
      rw [hp] at HCk hre
      obtain ⟨oo, ho⟩ : ∃ x, oc c = x := ⟨_, rfl⟩
      obtain ⟨m, hm⟩ : ∃ x, nc c = x := ⟨_, rfl⟩
      obtain ⟨kk, hk⟩ : ∃ x, cc c = x := ⟨_, rfl⟩
      rw [ho, hm, hk] at e2 HCk
      rw [hm] at hre
      have hc1 : (c : Int) < (K : Int) := by omega
      clear hcS e1 l1 hp ho hm hk
      by_cases hp0 : p = 0
      · subst hp0
        rw [if_neg (by simp)] at hre
        by_cases hmn : m = n
        · subst hmn
          rw [if_neg (by simp)] at hre
          have HRe := Lib.hid hre
          clear hre
          go_wp2_with fail
          refine HCk.out.mono ?_
          rintro e w' ⟨rfl, rfl⟩
          go_wp2_with fail
          go_roundw
          case rel => exact ⟨c + 1, by omega, by go_num, HRe.out, d, rfl⟩
          case measure => simp [intOf]; omega
        · rw [if_pos hmn] at hre
          have g1 : (m == n) = false := by simpa using hmn
          have g2 : ((m : Int) != (n : Int)) = true := by rw [bne_iff_ne]; omega
          subst hre
          clear hmn
          go_wp2_with fail
          refine HCk.out.mono ?_
          rintro e w' ⟨rfl, rfl⟩
          go_wp2_with fail
          go_ret2
          exact ⟨_, _, rfl, ⟨Lz.nil, by omega⟩, below_dn d HB.out⟩
      · rw [if_pos hp0] at hre
        subst hre
        have g1 : (p != 0) = true := by rw [bne_iff_ne]; exact hp0
        clear hp0 h0
        go_wp2_with fail
        refine HCk.out.mono ?_
        rintro e w' ⟨rfl, rfl⟩
        go_wp2_with fail
        go_ret2
        exact ⟨_, _, rfl, ⟨Lz.nil, by omega⟩, below_dn d HB.out⟩
    · have e : c = K := by omega
      subst e
      rw [Nat.sub_self] at hre
      exact absurd hre.symm h0

end Go.Proofs.YtgppdbiimlbpjaaDoor
