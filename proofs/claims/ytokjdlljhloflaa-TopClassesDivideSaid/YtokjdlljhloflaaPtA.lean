/- Package partition and its specification: Check, for whatever lists. -/
import Derived.Test.YtokjdlljhloflaaProg
import Derived.WalkKit
import Derived.WalkSpells
import Derived.WalkLawsBesides
import Derived.Handy
import Derived.Deep.QuietTactic
import Derived.BigQuiet
import Derived.Outline
import Derived.Laws.BitsAllLaws
import Derived.IntWalk
import Derived.Lib.SmallJoins
import Derived.Lib.Hide
import Derived.Deep.DeepCutAuto
import Derived.LoopTactic
import Derived.Deep.RegionWith
namespace Go.Proofs.Ytokjdlljhloflaa
set_option linter.unusedVariables false
set_option linter.unusedSimpArgs false
open Go.RowKit

/-- A list of integers that lies there. -/
def Arz (w : World) (b off : Nat) (l : List Int) : Prop := ∀ i, (h : i < l.length) → w.cell? ⟨b, off + i, none⟩ = some (.int .i64 l[i])
/-- The error of a list of labels, with c labels ahead of it. -/
def chk : Nat → List Int → Int
  | _, [] => 0
  | c, x :: r => if x < 0 then 2 else if (c : Int) < x then 14 else if x = (c : Int) then chk (c + 1) r else chk c r

theorem ptchk_empty (o : Option Addr) (cap : Nat) (w : World) : Calls Try.prog 32 #[.slice o 0 cap] w fun e w' => e = .returned (.int .i64 0) ∧ w = w' := by
  go_enter Try.func32, Try.ntmps32
  go_wp2_with fail
  go_rounds 1
  go_ret
  exact ⟨rfl, rfl⟩
theorem ptchk_many (o : Option Addr) (k cap : Nat) (h : 65536 < k) (w : World) : Calls Try.prog 32 #[.slice o k cap] w fun e w' => e = .returned (.int .i64 5) ∧ w = w' := by
  have hi : (65536 : Int) < (k : Int) := by omega
  clear h
  go_enter Try.func32, Try.ntmps32
  go_wp2_with fail
  go_ret
  exact ⟨rfl, rfl⟩
set_option maxHeartbeats 2000000 in
theorem ptchk_list (l : List Int) (hl : l.length ≤ 65536) (b off cap : Nat) (w : World) (hA : Arz w b off l) : Calls Try.prog 32 #[.slice (some ⟨b, off, none⟩) l.length cap] w fun e w' => e = .returned (.int .i64 (chk 0 l)) ∧ w = w' := by
  have HA := Lib.hid hA
  have hli : (l.length : Int) ≤ 65536 := by omega
  obtain ⟨r, hr⟩ : ∃ r, chk 0 l = r := ⟨_, rfl⟩
  rw [hr]
  clear hA
  go_enter Try.func32, Try.ntmps32
  go_wp2_with fail
  go_loop [3, 11] (fun s j => ∃ (i c : Nat), i ≤ l.length ∧ c ≤ i ∧ j = .int .i64 (i : Int) ∧ s = .int .i64 (c : Int) ∧ chk c (l.drop i) = r) (fun _ j => l.length - (intOf j).toNat)
  case atStart => exact ⟨0, 0, by omega, by omega, rfl, rfl, hr⟩
  case round =>
    obtain ⟨i, c, hi, hc, rfl, rfl, hre⟩ := hrel
    clear hr
    by_cases hlt : i < l.length
    · have hx := HA.out i hlt
      rw [List.drop_eq_getElem_cons hlt] at hre
      obtain ⟨x, hxe⟩ : ∃ x, l[i] = x := ⟨_, rfl⟩
      rw [hxe] at hx hre
      clear hxe
      unfold chk at hre
      by_cases h1 : x < 0
      · rw [if_pos h1] at hre
        subst hre
        go_wp2_with fail
        go_ret
        exact ⟨rfl, rfl⟩
      · rw [if_neg h1] at hre
        have h1' : 0 ≤ x := by omega
        by_cases h2 : (c : Int) < x
        · rw [if_pos h2] at hre
          subst hre
          clear h1
          go_wp2_with fail
          go_ret
          exact ⟨rfl, rfl⟩
        · rw [if_neg h2] at hre
          by_cases h3 : x = (c : Int)
          · rw [if_pos h3] at hre
            have Hre := Lib.hid hre
            subst h3
            clear h1 h2 hre
            go_wp2_with fail
            go_round
            case rel => exact ⟨i + 1, c + 1, by omega, by omega, by go_num, by go_num, Hre.out⟩
            case measure => simp [intOf] <;> omega
          · rw [if_neg h3] at hre
            have Hre := Lib.hid hre
            have h4 : x < (c : Int) := by omega
            clear h1 h2 h3 hre
            go_wp2_with fail
            go_round
            case rel => exact ⟨i + 1, c, by omega, by omega, by go_num, rfl, Hre.out⟩
            case measure => simp [intOf] <;> omega
    · have hil : i = l.length := by omega
      have hd : l.drop i = [] := List.drop_eq_nil_of_le (by omega)
      rw [hd] at hre
      have hr2 : r = 0 := hre.symm
      subst hr2
      clear hre hd
      go_wp2_with fail
      go_ret
      exact ⟨rfl, rfl⟩

theorem rptchk_empty (o : Option Addr) (cap : Nat) (w : World) : Calls Try.prog 5 #[.slice o 0 cap] w fun e w' => e = .returned (.int .i64 0) ∧ w = w' := by
  go_enter Try.func5, Try.ntmps5
  go_wp2_with fail
  go_rounds 1
  go_ret
  exact ⟨rfl, rfl⟩
theorem rptchk_many (o : Option Addr) (k cap : Nat) (h : 65536 < k) (w : World) : Calls Try.prog 5 #[.slice o k cap] w fun e w' => e = .returned (.int .i64 5) ∧ w = w' := by
  have hi : (65536 : Int) < (k : Int) := by omega
  clear h
  go_enter Try.func5, Try.ntmps5
  go_wp2_with fail
  go_ret
  exact ⟨rfl, rfl⟩
set_option maxHeartbeats 2000000 in
theorem rptchk_list (l : List Int) (hl : l.length ≤ 65536) (b off cap : Nat) (w : World) (hA : Arz w b off l) : Calls Try.prog 5 #[.slice (some ⟨b, off, none⟩) l.length cap] w fun e w' => e = .returned (.int .i64 (chk 0 l)) ∧ w = w' := by
  have HA := Lib.hid hA
  have hli : (l.length : Int) ≤ 65536 := by omega
  obtain ⟨r, hr⟩ : ∃ r, chk 0 l = r := ⟨_, rfl⟩
  rw [hr]
  clear hA
  go_enter Try.func5, Try.ntmps5
  go_wp2_with fail
  go_loop [3, 4] (fun s j => ∃ (i c : Nat), i ≤ l.length ∧ c ≤ i ∧ j = .int .i64 (i : Int) ∧ s = .int .i64 (c : Int) ∧ chk c (l.drop i) = r) (fun _ j => l.length - (intOf j).toNat)
  case atStart => exact ⟨0, 0, by omega, by omega, rfl, rfl, hr⟩
  case round =>
    obtain ⟨i, c, hi, hc, rfl, rfl, hre⟩ := hrel
    clear hr
    by_cases hlt : i < l.length
    · have hx := HA.out i hlt
      rw [List.drop_eq_getElem_cons hlt] at hre
      obtain ⟨x, hxe⟩ : ∃ x, l[i] = x := ⟨_, rfl⟩
      rw [hxe] at hx hre
      clear hxe
      unfold chk at hre
      by_cases h1 : x < 0
      · rw [if_pos h1] at hre
        subst hre
        go_wp2_with fail
        go_ret
        exact ⟨rfl, rfl⟩
      · rw [if_neg h1] at hre
        have h1' : 0 ≤ x := by omega
        by_cases h2 : (c : Int) < x
        · rw [if_pos h2] at hre
          subst hre
          clear h1
          go_wp2_with fail
          go_ret
          exact ⟨rfl, rfl⟩
        · rw [if_neg h2] at hre
          by_cases h3 : x = (c : Int)
          · rw [if_pos h3] at hre
            have Hre := Lib.hid hre
            subst h3
            clear h1 h2 hre
            go_wp2_with fail
            go_round
            case rel => exact ⟨i + 1, c + 1, by omega, by omega, by go_num, by go_num, Hre.out⟩
            case measure => simp [intOf] <;> omega
          · rw [if_neg h3] at hre
            have Hre := Lib.hid hre
            have h4 : x < (c : Int) := by omega
            clear h1 h2 h3 hre
            go_wp2_with fail
            go_round
            case rel => exact ⟨i + 1, c, by omega, by omega, by go_num, rfl, Hre.out⟩
            case measure => simp [intOf] <;> omega
    · have hil : i = l.length := by omega
      have hd : l.drop i = [] := List.drop_eq_nil_of_le (by omega)
      rw [hd] at hre
      have hr2 : r = 0 := hre.symm
      subst hr2
      clear hre hd
      go_wp2_with fail
      go_ret
      exact ⟨rfl, rfl⟩
end Go.Proofs.Ytokjdlljhloflaa
