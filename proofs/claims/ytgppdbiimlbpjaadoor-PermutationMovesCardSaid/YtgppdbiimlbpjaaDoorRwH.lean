/- slices.SortFunc over slices.Compare where the lists lie in order. -/
import Derived.Test.YtgppdbiimlbpjaaDoorRwG
import Derived.WalkKit
import Derived.WalkSpells
import Derived.WalkLawsBesides
import Derived.Handy
import Derived.Deep.QuietTactic
import Derived.BigQuiet
import Derived.Outline
import Derived.Laws.BitsAllLaws
import Derived.IntWalk
import Derived.Lib.SmallJoins
import Derived.Lib.Hide
import Derived.Deep.DeepCutAuto
import Derived.LoopTactic
import Derived.Deep.RegionWith
namespace Go.Proofs.YtgppdbiimlbpjaaDoor
set_option linter.unusedVariables false
set_option linter.unusedSimpArgs false
open Go.RowKit

/-- How two numbers compare. -/
def cmpz (x y : Int) : Int := if x < y then -1 else if y < x then 1 else 0
theorem cmp_int (x y : Int) (w : World) : Calls Tryd.prog 69 #[.int .i64 x, .int .i64 y] w fun e w' => e = .returned (.int .i64 (cmpz x y)) ∧ w = w' := by
  obtain ⟨r, hr⟩ : ∃ r, cmpz x y = r := ⟨_, rfl⟩
  have HR := Lib.hid hr
  rw [hr]
  clear hr
  have H1 := Lib.hid (fun w => nan_any x w)
  have H2 := Lib.hid (fun w => nan_any y w)
  rcases Int.lt_trichotomy x y with h | h | h
  · have e : r = -1 := by rw [← HR.out]; unfold cmpz; rw [if_pos h]
    subst e
    go_enter Tryd.func69, Tryd.ntmps69
    go_wp2_with fail
    refine (H1.out _).mono ?_
    rintro e w' ⟨rfl, rfl⟩
    go_wp2_with fail
    refine (H2.out _).mono ?_
    rintro e w' ⟨rfl, rfl⟩
    go_wp2_with fail
    go_ret
    exact ⟨rfl, rfl⟩
  · have e : r = 0 := by rw [← HR.out]; unfold cmpz; rw [if_neg (by omega), if_neg (by omega)]
    subst e
    have h1 : ¬ x < y := by omega
    have h2 : ¬ y < x := by omega
    clear h
    go_enter Tryd.func69, Tryd.ntmps69
    go_wp2_with fail
    refine (H1.out _).mono ?_
    rintro e w' ⟨rfl, rfl⟩
    go_wp2_with fail
    refine (H2.out _).mono ?_
    rintro e w' ⟨rfl, rfl⟩
    go_wp2_with fail
    go_ret
    exact ⟨rfl, rfl⟩
  · have e : r = 1 := by rw [← HR.out]; unfold cmpz; rw [if_neg (by omega), if_pos h]
    subst e
    have h1 : ¬ x < y := by omega
    go_enter Tryd.func69, Tryd.ntmps69
    go_wp2_with fail
    refine (H1.out _).mono ?_
    rintro e w' ⟨rfl, rfl⟩
    go_wp2_with fail
    refine (H2.out _).mono ?_
    rintro e w' ⟨rfl, rfl⟩
    go_wp2_with fail
    go_ret
    exact ⟨rfl, rfl⟩

/-- How two lists of the same length compare, m places from i on. -/
def cmpl (f g : Nat → Int) : Nat → Nat → Int
  | 0, _ => 0
  | m + 1, i => if cmpz (f i) (g i) = 0 then cmpl f g m (i + 1) else cmpz (f i) (g i)
theorem cmpl_step {n i : Nat} (f g : Nat → Int) (h : i < n) : cmpl f g (n - i) i = if cmpz (f i) (g i) = 0 then cmpl f g (n - (i + 1)) (i + 1) else cmpz (f i) (g i) := by
  obtain ⟨m, hm⟩ : ∃ m, n - i = m + 1 := ⟨n - i - 1, by omega⟩
  have hm2 : n - (i + 1) = m := by omega
  rw [hm, hm2]; rfl
set_option maxHeartbeats 1000000 in
theorem scmp_any (n : Nat) (hn : n ≤ 65536) (f g : Nat → Int) (o p : Option Addr) (cap cap' : Nat) (w : World) (hL : Lz w o n f) (hL' : Lz w p n g) : Calls Tryd.prog 47 #[.slice o n cap, .slice p n cap'] w fun e w' => e = .returned (.int .i64 (cmpl f g n 0)) ∧ w = w' := by
  have HL := Lib.hid hL
  have HL' := Lib.hid hL'
  clear hL hL'
  obtain ⟨r, hr⟩ : ∃ r, cmpl f g n 0 = r := ⟨_, rfl⟩
  have HR := Lib.hid hr
  rw [hr]
  clear hr
  go_enter Tryd.func47, Tryd.ntmps47
  go_wp2_with fail
  go_loop [11] (fun j => ∃ i : Nat, i ≤ n ∧ j = .int .i64 (i : Int) ∧ cmpl f g (n - i) i = r) (fun j => n - (intOf j).toNat)
  case atStart => exact ⟨0, by omega, rfl, HR.out⟩
  case round =>
    obtain ⟨i, hi, rfl, hre⟩ := hrel
    have HRe := Lib.hid hre
    clear hre
    by_cases hlt : i < n
    · obtain ⟨bl, ofs, rfl, hbl, hcl⟩ := HL.out (by omega)
      obtain ⟨bg, ofg, rfl, hbg, hcg⟩ := HL'.out (by omega)
      have c1 := hcl i hlt
      have c2 := hcg i hlt
      have hst := cmpl_step f g hlt
      rw [HRe.out] at hst
      obtain ⟨x, hx⟩ : ∃ x, f i = x := ⟨_, rfl⟩
      obtain ⟨y, hy⟩ : ∃ y, g i = y := ⟨_, rfl⟩
      rw [hx] at c1 hst
      rw [hy] at c2 hst
      have HC := Lib.hid (fun w => cmp_int x y w)
      obtain ⟨z, hz⟩ : ∃ z, cmpz x y = z := ⟨_, rfl⟩
      rw [hz] at hst HC
      clear hcl hcg hx hy hz
      have hi1 : (i : Int) < (n : Int) := by omega
      have hi2 : ¬ ((n : Int) ≤ (i : Int)) := by omega
      by_cases h0 : z = 0
      · subst h0
        rw [if_pos rfl] at hst
        have HSt := Lib.hid hst
        clear hst
        go_wp2_with (go_at_call 69; refine (HC.out _).mono ?_; rintro e w' ⟨rfl, rfl⟩)
        go_round
        case rel => exact ⟨i + 1, by omega, by go_num, HSt.out.symm⟩
        case measure => simp [intOf]; omega
      · rw [if_neg h0] at hst
        subst hst
        have hb : (r != 0) = true := by rw [bne_iff_ne]; exact h0
        have h1 : (r == 0) = false := by rw [beq_eq_false_iff_ne]; exact h0
        clear h0
        go_wp2_with (go_at_call 69; refine (HC.out _).mono ?_; rintro e w' ⟨rfl, rfl⟩)
        go_ret
        exact ⟨rfl, rfl⟩
    · have e : i = n := by omega
      subst e
      have h0 : r = 0 := by have := HRe.out; rw [Nat.sub_self] at this; exact this.symm
      subst h0
      clear hlt
      go_wp2_with fail
      go_ret
      exact ⟨rfl, rfl⟩


end Go.Proofs.YtgppdbiimlbpjaaDoor
