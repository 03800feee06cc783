/- Package partition and its specification: the number of classes. -/
import Derived.Test.YtokjdlljhloflaaPtA
import Derived.WalkKit
import Derived.WalkSpells
import Derived.WalkLawsBesides
import Derived.Handy
import Derived.Deep.QuietTactic
import Derived.BigQuiet
import Derived.Outline
import Derived.Laws.BitsAllLaws
import Derived.IntWalk
import Derived.Lib.SmallJoins
import Derived.Lib.Hide
import Derived.Deep.DeepCutAuto
import Derived.LoopTactic
import Derived.Deep.RegionWith
namespace Go.Proofs.Ytokjdlljhloflaa
set_option linter.unusedVariables false
set_option linter.unusedSimpArgs false
open Go.RowKit

def zn (l : List Nat) : List Int := l.map fun x : Nat => (x : Int)
/-- The greatest label and one more. -/
def mx : Nat → List Nat → Nat
  | c, [] => c
  | c, x :: r => mx (max c (x + 1)) r

theorem ptcount_empty (o : Option Addr) (cap : Nat) (w : World) : Calls Try.prog 33 #[.slice o 0 cap] w fun e w' => e = .returned (.int .i64 0) ∧ w = w' := by
  go_enter Try.func33, Try.ntmps33
  go_wp2_with fail
  go_rounds 1
  go_ret
  exact ⟨rfl, rfl⟩
set_option maxHeartbeats 2000000 in
theorem ptcount_list (l : List Nat) (hl : l.length ≤ 65536) (hb : ∀ x ∈ l, x < 1000000) (b off cap : Nat) (w : World) (hA : Arz w b off (zn l)) : Calls Try.prog 33 #[.slice (some ⟨b, off, none⟩) l.length cap] w fun e w' => e = .returned (.int .i64 (mx 0 l : Int)) ∧ w = w' := by
  have HA : Hid (∀ i, (h : i < l.length) → w.cell? ⟨b, off + i, none⟩ = some (.int .i64 (l[i] : Int))) := Lib.hid (fun i h => by
    have h2 := hA i (by simp [zn]; exact h)
    rw [h2]; simp [zn])
  have HB := Lib.hid hb
  have hli : (l.length : Int) ≤ 65536 := by omega
  obtain ⟨r, hr⟩ : ∃ r, mx 0 l = r := ⟨_, rfl⟩
  rw [hr]
  clear hA hb
  go_enter Try.func33, Try.ntmps33
  go_wp2_with fail
  go_loop [3, 8] (fun s j => ∃ (i c : Nat), i ≤ l.length ∧ c ≤ 1000000 ∧ j = .int .i64 (i : Int) ∧ s = .int .i64 (c : Int) ∧ mx c (l.drop i) = r) (fun _ j => l.length - (intOf j).toNat)
  case atStart => exact ⟨0, 0, by omega, by omega, rfl, rfl, hr⟩
  case round =>
    obtain ⟨i, c, hi, hc, rfl, rfl, hre⟩ := hrel
    clear hr
    by_cases hlt : i < l.length
    · have hx := HA.out i hlt
      have hxb := HB.out _ (List.getElem_mem hlt)
      rw [List.drop_eq_getElem_cons hlt] at hre
      obtain ⟨x, hxe⟩ : ∃ x, l[i] = x := ⟨_, rfl⟩
      rw [hxe] at hx hre hxb
      clear hxe
      unfold mx at hre
      by_cases h1 : x + 1 ≤ c
      · have Hre : Hid (mx c (l.drop (i + 1)) = r) := Lib.hid (by rw [show max c (x + 1) = c by omega] at hre; exact hre)
        have h1i : (x : Int) + 1 ≤ (c : Int) := by omega
        have hmx : max (c : Int) ((x : Int) + 1) = (c : Int) := by omega
        clear h1 hre
        go_wp2_with fail
        go_round
        case rel => exact ⟨i + 1, c, by omega, by omega, by go_num, by first | rfl | (rw [hmx]) | go_num, Hre.out⟩
        case measure => simp [intOf] <;> omega
      · have Hre : Hid (mx (x + 1) (l.drop (i + 1)) = r) := Lib.hid (by rw [show max c (x + 1) = x + 1 by omega] at hre; exact hre)
        have h1i : (c : Int) ≤ (x : Int) + 1 := by omega
        have hmx : max (c : Int) ((x : Int) + 1) = ((x + 1 : Nat) : Int) := by omega
        clear h1 hre
        go_wp2_with fail
        go_round
        case rel => exact ⟨i + 1, x + 1, by omega, by omega, by go_num, by first | rfl | (rw [hmx]) | go_num, Hre.out⟩
        case measure => simp [intOf] <;> omega
    · have hil : i = l.length := by omega
      have hd : l.drop i = [] := List.drop_eq_nil_of_le (by omega)
      rw [hd] at hre
      have hr2 : c = r := hre
      subst hr2
      clear hre hd
      go_wp2_with fail
      go_ret
      exact ⟨rfl, rfl⟩

end Go.Proofs.Ytokjdlljhloflaa
