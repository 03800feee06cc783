/- Package procset and its specification: Of, for whatever lists. -/
import Derived.Test.YtokjdlljhloflaaPsF
import Derived.WalkKit
import Derived.WalkSpells
import Derived.WalkLawsBesides
import Derived.Handy
import Derived.Deep.QuietTactic
import Derived.BigQuiet
import Derived.Outline
import Derived.Laws.BitsAllLaws
import Derived.IntWalk
import Derived.Lib.SmallJoins
import Derived.Lib.Hide
import Derived.Deep.DeepCutAuto
import Derived.LoopTactic
import Derived.Deep.RegionWith
namespace Go.Proofs.Ytokjdlljhloflaa.Ps
set_option linter.unusedVariables false
set_option linter.unusedSimpArgs false
open Go.RowKit

/-- The set of a list, and the error. -/
def ofz (N : Nat) : Nat → List Int → Int × Int
  | acc, [] => ((acc : Int), 0)
  | acc, x :: r => if x < 0 ∨ (N : Int) ≤ x then (0, 2) else if acc / 2 ^ x.toNat % 2 = 1 then (0, 7) else ofz N (acc ||| 2 ^ x.toNat) r
theorem or_fin : ∀ a : Fin 32, ∀ p : Fin 5, (¬ a.val / 2 ^ p.val % 2 = 1 → a.val ||| 2 ^ p.val = a.val + 2 ^ p.val) ∧ a.val ||| 2 ^ p.val < 32 ∧ bits .or .i64 (a.val : Int) ((2 ^ p.val : Nat) : Int) = ((a.val ||| 2 ^ p.val : Nat) : Int) := by decide +kernel
theorem bit_fin : ∀ a : Fin 32, ∀ p : Fin 5, (bits .and .i64 ((a.val : Int) / (2 : Int) ^ p.val) 1 == 1) = decide (a.val / 2 ^ p.val % 2 = 1) := by decide +kernel

/-- A list of integers that lies there. -/
def Arz (w : World) (b off : Nat) (l : List Int) : Prop := ∀ i, (h : i < l.length) → w.cell? ⟨b, off + i, none⟩ = some (.int .i64 l[i])

theorem of_n (n : Int) (h : NOut n) (v : Value) (w : World) : Calls Try.prog 13 #[.int .i64 n, v] w fun e w' => e = .returned (.tuple #[.int .i64 0, .int .i64 1]) ∧ w = w' := by
  have H := Lib.hid (fun w => pchk_n n 0 h w)
  clear h
  go_enter Try.func13, Try.ntmps13
  go_wp2_with fail
  refine (H.out _).mono ?_
  rintro e w' ⟨rfl, rfl⟩
  go_wp2_with fail
  go_ret2
  exact ⟨rfl, rfl⟩
theorem of_nil (N : Nat) (h1 : 1 ≤ N ∧ N ≤ 5) (w : World) : Calls Try.prog 13 #[.int .i64 (N : Int), .slice none 0 0] w fun e w' => e = .returned (.tuple #[.int .i64 0, .int .i64 0]) ∧ w = w' := by
  have H := Lib.hid (fun w => pchk_ok N 0 ⟨h1.1, h1.2, Nat.pow_pos (by omega)⟩ w)
  clear h1
  go_enter Try.func13, Try.ntmps13
  go_wp2_with fail
  refine (H.out _).mono ?_
  rintro e w' ⟨rfl, rfl⟩
  go_wp2_with fail
  go_rounds 1
  go_ret2
  exact ⟨rfl, rfl⟩
set_option maxRecDepth 100000 in
set_option maxHeartbeats 4000000 in
theorem of_okn (N : Nat) (h1 : 1 ≤ N ∧ N ≤ 5) (l : List Int) (hl : l.length ≤ 1000000) (b off cap : Nat) (w : World) (hA : Arz w b off l) :
    Calls Try.prog 13 #[.int .i64 (N : Int), .slice (some ⟨b, off, none⟩) l.length cap] w fun e w' => e = .returned (.tuple #[.int .i64 (ofz N 0 l).1, .int .i64 (ofz N 0 l).2]) ∧ w = w' := by
  have H := Lib.hid (fun w => pchk_ok N 0 ⟨h1.1, h1.2, Nat.pow_pos (by omega)⟩ w)
  have HA := Lib.hid hA
  have hN5 : (N : Int) ≤ 5 := by omega
  obtain ⟨r, hr⟩ : ∃ r, ofz N 0 l = r := ⟨_, rfl⟩
  rw [hr]
  clear hA
  go_enter Try.func13, Try.ntmps13
  go_wp2_with fail
  refine (H.out _).mono ?_
  rintro e w' ⟨rfl, rfl⟩
  go_wp2_with fail
  go_loop [7, 17] (fun s j => ∃ (i acc : Nat), i ≤ l.length ∧ acc < 32 ∧ j = .int .i64 (i : Int) ∧ s = .int .i64 (acc : Int) ∧ ofz N acc (l.drop i) = r) (fun _ j => l.length - (intOf j).toNat)
  case atStart => exact ⟨0, 0, by omega, by omega, rfl, rfl, hr⟩
  case round =>
    obtain ⟨i, acc, hi, hacc, rfl, rfl, hre⟩ := hrel
    clear hr
    by_cases hlt : i < l.length
    · have hc := HA.out i hlt
      rw [List.drop_eq_getElem_cons hlt] at hre
      obtain ⟨x, hx⟩ : ∃ x, l[i] = x := ⟨_, rfl⟩
      rw [hx] at hc hre
      clear hx
      unfold ofz at hre
      by_cases hxo : x < 0 ∨ (N : Int) ≤ x
      · rw [if_pos hxo] at hre
        subst hre
        rcases hxo with hxo | hxo
        · go_wp2_with fail
          go_ret2
          exact ⟨rfl, rfl⟩
        · have hx0 : 0 ≤ x := by omega
          go_wp2_with fail
          go_ret2
          exact ⟨rfl, rfl⟩
      · rw [if_neg hxo] at hre
        obtain ⟨p, rfl⟩ := Int.eq_ofNat_of_zero_le (show 0 ≤ x by omega)
        have hpN : (p : Int) < (N : Int) := by omega
        have hp5 : p < 5 := by omega
        simp only [Int.toNat_natCast] at hre
        clear hxo
        by_cases hb : acc / 2 ^ p % 2 = 1
        · rw [if_pos hb] at hre
          subst hre
          have hbf := bit_fin ⟨acc, hacc⟩ ⟨p, hp5⟩
          rw [decide_eq_true hb] at hbf
          simp only at hbf
          clear hb
          go_wp2_with fail
          go_ret2
          exact ⟨rfl, rfl⟩
        · rw [if_neg hb] at hre
          have hof := or_fin ⟨acc, hacc⟩ ⟨p, hp5⟩
          simp only at hof
          have hbf := bit_fin ⟨acc, hacc⟩ ⟨p, hp5⟩
          rw [decide_eq_false hb] at hbf
          simp only at hbf
          have hor := hof.2.2
          have hlt32 := hof.2.1
          have ew : wrap64 (2 ^ p) = ((2 ^ p : Nat) : Int) := by
            have e : ((2 : Int) ^ p) = ((2 ^ p : Nat) : Int) := by simp
            have hq : 2 ^ p ≤ 32 := Nat.pow_le_pow_right (n := 2) (by omega) (show p ≤ 5 by omega)
            rw [e]
            generalize 2 ^ p = z at hq
            rw [IntWalk.wrap64_in _ (by omega)]
          obtain ⟨a2, ha2⟩ : ∃ a2, acc ||| 2 ^ p = a2 := ⟨_, rfl⟩
          rw [ha2] at hor hlt32 hre
          rw [← ew] at hor
          have Hre := Lib.hid hre
          clear hb hof ha2 ew hre
          go_wp2_with fail
          go_round
          case rel => exact ⟨i + 1, a2, by omega, hlt32, by go_num, rfl, Hre.out⟩
          case measure => simp [intOf]; omega
    · have hil : i = l.length := by omega
      have hd : l.drop i = [] := List.drop_eq_nil_of_le (by omega)
      rw [hd] at hre
      have hr2 : r = ((acc : Int), 0) := hre.symm
      subst hr2
      clear hre hd
      go_wp2_with fail
      go_ret2
      exact ⟨rfl, rfl⟩

end Go.Proofs.Ytokjdlljhloflaa.Ps
