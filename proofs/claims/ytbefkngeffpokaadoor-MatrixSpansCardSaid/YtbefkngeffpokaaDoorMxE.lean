/- The numbers of the errors of vectors and matrices, both sides. -/
import Derived.Test.YtbefkngeffpokaaDoorMxC
import Derived.WalkKit
import Derived.WalkSpells
import Derived.WalkLawsBesides
import Derived.Handy
import Derived.Deep.QuietTactic
import Derived.BigQuiet
import Derived.Outline
import Derived.Laws.BitsAllLaws
import Derived.IntWalk
import Derived.Lib.SmallJoins
import Derived.Lib.Hide
import Derived.Deep.DeepCutAuto
import Derived.LoopTactic
import Derived.Deep.RegionWith
import Derived.Laws.CopyOwn
import Derived.Maps.OwnOps
import Derived.Maps.OwnSet
import Derived.Laws.OwnMore
import Derived.Maps.AppendAt
import Derived.RangeFuncNested
import Derived.RangeFuncBound
import Derived.RangeFuncCalls
import Derived.RangeFuncLeaves
import Derived.RangeFuncBox
import Derived.RangeFuncFrom
import Derived.Shelf.Abstract
import Derived.Shelf.RegionOpen
import Derived.OwnWalkIn
import Derived.TacticsInMore
import Derived.LoopNIn
import Derived.LoopIn
import Derived.Deep.RegionHeld3
import Derived.RegionTactic
import Derived.ChangeAlike
namespace Go.Proofs.YtbefkngeffpokaaDoor
set_option linter.unusedVariables false
set_option linter.unusedSimpArgs false
open Go.RowKit


/-- The number of the first error of a vector, from place i on. -/
def vgo (C : Int) (f : Nat → Int) : Nat → Nat → Int
  | 0, _ => 0
  | m + 1, i => if f i < 0 ∨ C ≤ f i then 2 else if 0 < i ∧ f i ≤ f (i - 1) then 14 else vgo C f m (i + 1)
def vcode (C : Int) (n : Nat) (f : Nat → Int) : Int := vgo C f n 0
theorem vgo_at {C : Int} {f : Nat → Int} {n i : Nat} (h : i < n) : vgo C f (n - i) i = if f i < 0 ∨ C ≤ f i then 2 else if 0 < i ∧ f i ≤ f (i - 1) then 14 else vgo C f (n - (i + 1)) (i + 1) := by
  obtain ⟨m, hm⟩ : ∃ m, n - i = m + 1 := ⟨n - i - 1, by omega⟩
  have hm2 : n - (i + 1) = m := by omega
  rw [hm, hm2]; rfl
/-- .. of rows, from row c on. -/
def mgo (C : Int) (nc : Nat → Nat) (xc : Nat → Nat → Int) : Nat → Nat → Int
  | 0, _ => 0
  | m + 1, c => if vcode C (nc c) (xc c) ≠ 0 then vcode C (nc c) (xc c) else mgo C nc xc m (c + 1)
theorem mgo_at {C : Int} {nc : Nat → Nat} {xc : Nat → Nat → Int} {K c : Nat} (h : c < K) : mgo C nc xc (K - c) c = if vcode C (nc c) (xc c) ≠ 0 then vcode C (nc c) (xc c) else mgo C nc xc (K - (c + 1)) (c + 1) := by
  obtain ⟨m, hm⟩ : ∃ m, K - c = m + 1 := ⟨K - c - 1, by omega⟩
  have hm2 : K - (c + 1) = m := by omega
  rw [hm, hm2]; rfl
def mcode (C : Int) (K : Nat) (nc : Nat → Nat) (xc : Nat → Nat → Int) : Int := if C < 0 ∨ 4096 < C then 2 else if 4096 < K then 5 else mgo C nc xc K 0
/-- K slices of integers. -/
def Lv (w : World) (o : Option Addr) (K : Nat) (oc : Nat → Option Addr) (nc cc : Nat → Nat) (xc : Nat → Nat → Int) : Prop := 0 < K → ∃ b off, o = some ⟨b, off, none⟩ ∧ b < w.heap.size ∧ ∀ c, c < K → w.cell? ⟨b, off + c, none⟩ = some (.slice (oc c) (nc c) (cc c)) ∧ Lz w (oc c) (nc c) (xc c)
theorem Lv.below {w W : World} {o : Option Addr} {K : Nat} {oc : Nat → Option Addr} {nc cc : Nat → Nat} {xc : Nat → Nat → Int} (h : Lv w o K oc nc cc xc) (hb : Below w.heap.size w W) : Lv W o K oc nc cc xc := fun hn => by
  obtain ⟨b, off, e, h1, h2⟩ := h hn
  exact ⟨b, off, e, Nat.lt_of_lt_of_le h1 hb.size, fun c hc => ⟨(hb.cell (p := ⟨b, off + c, none⟩) h1).trans (h2 c hc).1, (h2 c hc).2.below hb⟩⟩
set_option maxHeartbeats 1000000 in
theorem cvec_any (C : Int) (n : Nat) (hn : n ≤ 1000000000) (f : Nat → Int) (o : Option Addr) (cap : Nat) (w : World) (hL : Lz w o n f) : Calls Tryd.prog 45 #[.slice o n cap, .int .i64 C] w fun e w' => e = .returned (.int .i64 (vcode C n f)) ∧ w = w' := by
  obtain ⟨r, hr⟩ : ∃ r, vcode C n f = r := ⟨_, rfl⟩
  rw [hr]
  have HR : Hid (vgo C f (n - 0) 0 = r) := Lib.hid hr
  have HL := Lib.hid hL
  clear hL hr
  go_enter Tryd.func45, Tryd.ntmps45
  go_wp2_with fail
  go_loop [9] (fun j => ∃ i : Nat, i ≤ n ∧ j = .int .i64 (i : Int) ∧ vgo C f (n - i) i = r) (fun j => n - (intOf j).toNat)
  case atStart => exact ⟨0, by omega, by first | trivial | rfl, HR.out⟩
  case round =>
    clear HR
    obtain ⟨i, hi, rfl, hre⟩ := hrel
    by_cases hlt : i < n
    · have hi1 : (i : Int) < (n : Int) := by omega
      obtain ⟨b, off, rfl, hb, hc⟩ := HL.out (by omega)
      have c1 := hc i hlt
      rw [vgo_at hlt] at hre
      have hprev : 0 < i → w.cell? ⟨b, off + (i - 1), none⟩ = some (.int .i64 (f (i - 1))) := fun h => hc (i - 1) (by omega)
      obtain ⟨x, hx⟩ : ∃ x, f i = x := ⟨_, rfl⟩
      obtain ⟨y, hy⟩ : ∃ y, f (i - 1) = y := ⟨_, rfl⟩
      rw [hx] at c1 hre
      rw [hy] at hre hprev
      clear hc hx hy
      by_cases hbad : x < 0 ∨ C ≤ x
      · rw [if_pos hbad] at hre
        subst hre
        clear hprev
        rcases hbad with h | h
        · go_wp2_with fail
          go_ret
          exact ⟨rfl, rfl⟩
        · by_cases h0 : x < 0
          · go_wp2_with fail
            go_ret
            exact ⟨rfl, rfl⟩
          · go_wp2_with fail
            go_ret
            exact ⟨rfl, rfl⟩
      · rw [if_neg hbad] at hre
        have g1 : ¬ x < 0 := fun h => hbad (.inl h)
        have g2 : ¬ C ≤ x := fun h => hbad (.inr h)
        clear hbad
        by_cases h0 : 0 < i
        · have c2 := hprev h0
          have j1 : (0 : Int) < (i : Int) := by omega
          have j2 : decide (0 < i) = true := decide_eq_true h0
          clear hprev
          by_cases hxy : x ≤ y
          · rw [if_pos ⟨h0, hxy⟩] at hre
            subst hre
            go_wp2_with fail
            go_ret
            exact ⟨rfl, rfl⟩
          · rw [if_neg (fun h => hxy h.2)] at hre
            have Hre := Lib.hid hre
            clear hre
            go_wp2_with fail
            go_round
            case rel => exact ⟨i + 1, by omega, by go_num, Hre.out⟩
            case measure => simp [intOf]; omega
        · rw [if_neg (fun h => h0 h.1)] at hre
          have j1 : ¬ (0 : Int) < (i : Int) := by omega
          have j2 : decide (0 < i) = false := decide_eq_false h0
          have Hre := Lib.hid hre
          clear hre hprev h0
          go_wp2_with fail
          go_round
          case rel => exact ⟨i + 1, by omega, by go_num, Hre.out⟩
          case measure => simp [intOf]; omega
    · have e : i = n := by omega
      subst e
      rw [Nat.sub_self] at hre
      have h0 : r = 0 := hre.symm
      subst h0
      clear hlt hre
      go_wp2_with fail
      go_ret
      exact ⟨rfl, rfl⟩
set_option maxHeartbeats 1000000 in
theorem rvec_any (C : Int) (n : Nat) (hn : n ≤ 1000000000) (f : Nat → Int) (o : Option Addr) (cap : Nat) (w : World) (hL : Lz w o n f) : Calls Tryd.prog 37 #[.int .i64 C, .slice o n cap] w fun e w' => e = .returned (.int .i64 (vcode C n f)) ∧ ∃ d, w' = w.drewN d := by
  obtain ⟨r, hr⟩ : ∃ r, vcode C n f = r := ⟨_, rfl⟩
  rw [hr]
  have HR : Hid (vgo C f (n - 0) 0 = r) := Lib.hid hr
  have HL := Lib.hid hL
  clear hL hr
  go_enter Tryd.func37, Tryd.ntmps37
  go_wp2_with fail
  go_loopw [5] (fun j wr => ∃ i : Nat, i ≤ n ∧ j = .int .i64 (i : Int) ∧ vgo C f (n - i) i = r ∧ ∃ d, wr = w.drewN d) (fun j _ => n - (intOf j).toNat)
  case atStart => exact ⟨0, by omega, by first | trivial | rfl, HR.out, 0, rfl⟩
  case round =>
    clear HR
    obtain ⟨i, hi, rfl, hre, d, rfl⟩ := hrel
    by_cases hlt : i < n
    · have hi1 : (i : Int) < (n : Int) := by omega
      obtain ⟨b, off, rfl, hb, hc⟩ := HL.out (by omega)
      have c1 := hc i hlt
      rw [vgo_at hlt] at hre
      have hprev : 0 < i → w.cell? ⟨b, off + (i - 1), none⟩ = some (.int .i64 (f (i - 1))) := fun h => hc (i - 1) (by omega)
      obtain ⟨x, hx⟩ : ∃ x, f i = x := ⟨_, rfl⟩
      obtain ⟨y, hy⟩ : ∃ y, f (i - 1) = y := ⟨_, rfl⟩
      rw [hx] at c1 hre
      rw [hy] at hre hprev
      clear hc hx hy
      by_cases hbad : x < 0 ∨ C ≤ x
      · rw [if_pos hbad] at hre
        subst hre
        clear hprev
        rcases hbad with h | h
        · go_wp2_with fail
          go_ret
          exact ⟨rfl, d, rfl⟩
        · by_cases h0 : x < 0
          · go_wp2_with fail
            go_ret
            exact ⟨rfl, d, rfl⟩
          · go_wp2_with fail
            go_ret
            exact ⟨rfl, d, rfl⟩
      · rw [if_neg hbad] at hre
        have g1 : ¬ x < 0 := fun h => hbad (.inl h)
        have g2 : ¬ C ≤ x := fun h => hbad (.inr h)
        clear hbad
        by_cases h0 : 0 < i
        · have c2 := hprev h0
          have j1 : (0 : Int) < (i : Int) := by omega
          have j2 : decide (0 < i) = true := decide_eq_true h0
          clear hprev
          by_cases hxy : x ≤ y
          · rw [if_pos ⟨h0, hxy⟩] at hre
            subst hre
            have hw1 : IntKind.i64.wrap ((i : Int) - 1) = ((i - 1 : Nat) : Int) := by rw [IntWalk.i64_in _ (by omega)]; omega
            have hw2 : ((i - 1 : Nat) : Int) < (n : Int) := by omega
            have hw3 : (0 : Int) ≤ ((i - 1 : Nat) : Int) := by omega
            go_wp2_with fail
            go_quiet (fail)
            go_wp2_with fail
            go_ret
            exact ⟨rfl, by first | exact ⟨_, World.drewN_drewN _ _ _⟩ | exact ⟨_, rfl⟩⟩
          · rw [if_neg (fun h => hxy h.2)] at hre
            have Hre := Lib.hid hre
            have hw1 : IntKind.i64.wrap ((i : Int) - 1) = ((i - 1 : Nat) : Int) := by rw [IntWalk.i64_in _ (by omega)]; omega
            have hw2 : ((i - 1 : Nat) : Int) < (n : Int) := by omega
            have hw3 : (0 : Int) ≤ ((i - 1 : Nat) : Int) := by omega
            clear hre
            go_wp2_with fail
            go_quiet (fail)
            go_wp2_with fail
            go_roundw
            case rel => exact ⟨i + 1, by omega, by go_num, Hre.out, by first | exact ⟨_, World.drewN_drewN _ _ _⟩ | exact ⟨_, rfl⟩⟩
            case measure => simp [intOf]; omega
        · rw [if_neg (fun h => h0 h.1)] at hre
          have j1 : ¬ (0 : Int) < (i : Int) := by omega
          have j2 : decide (0 < i) = false := decide_eq_false h0
          have j3 : decide ((0 : Int) < (i : Int)) = false := decide_eq_false j1
          have Hre := Lib.hid hre
          clear hre hprev h0
          go_wp2_with fail
          go_quiet (fail)
          go_wp2_with fail
          go_roundw
          case rel => exact ⟨i + 1, by omega, by go_num, Hre.out, by first | exact ⟨_, World.drewN_drewN _ _ _⟩ | exact ⟨_, rfl⟩⟩
          case measure => simp [intOf]; omega
    · have e : i = n := by omega
      subst e
      rw [Nat.sub_self] at hre
      have h0 : r = 0 := hre.symm
      subst h0
      clear hlt hre
      go_wp2_with fail
      go_ret
      exact ⟨rfl, d, rfl⟩

end Go.Proofs.YtbefkngeffpokaaDoor
