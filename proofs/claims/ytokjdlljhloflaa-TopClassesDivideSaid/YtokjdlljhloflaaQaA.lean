/- What the laws of this chapter ask of their lists first; slices.Equal. -/
import Derived.Test.YtokjdlljhloflaaPtZ
import Derived.WalkKit
import Derived.WalkSpells
import Derived.WalkLawsBesides
import Derived.Handy
import Derived.Deep.QuietTactic
import Derived.BigQuiet
import Derived.Outline
import Derived.Laws.BitsAllLaws
import Derived.IntWalk
import Derived.Lib.SmallJoins
import Derived.Lib.Hide
import Derived.Deep.DeepCutAuto
import Derived.LoopTactic
import Derived.Deep.RegionWith
namespace Go.Proofs.Ytokjdlljhloflaa
set_option linter.unusedVariables false
set_option linter.unusedSimpArgs false
open Go.RowKit Part

/-- Whether two lists are equal. -/
def eqb (n : Nat) (f : Nat → Int) (m : Nat) (g : Nat → Int) : Bool := decide (n = m ∧ ∀ i, i < n → f i = g i)
theorem eqb_self {n : Nat} {f g : Nat → Int} (h : ∀ i, i < n → f i = g i) : eqb n f n g = true := decide_eq_true ⟨rfl, h⟩
set_option maxHeartbeats 1000000 in
theorem equal_any (n m : Nat) (hn : n ≤ 1000000) (f g : Nat → Int) (o p : Option Addr) (cap cap' : Nat) (w : World) (hL : Lz w o n f) (hL' : Lz w p m g) : Calls Try.prog 11 #[.slice o n cap, .slice p m cap'] w fun e w' => e = .returned (.bool (eqb n f m g)) ∧ Below w.heap.size w w' := by
  obtain ⟨r, hr⟩ : ∃ r, eqb n f m g = r := ⟨_, rfl⟩
  rw [hr]
  have HR := Lib.hid hr
  have HL := Lib.hid hL
  have HL' := Lib.hid hL'
  clear hL hL' hr
  by_cases hnm : n = m
  · subst hnm
    go_enter Try.func11, Try.ntmps11
    go_wp2_with fail
    go_loopw [13] (fun j wr => ∃ i : Nat, i ≤ n ∧ j = .int .i64 (i : Int) ∧ (∀ c, c < i → f c = g c) ∧ ∃ d, wr = w.drewN d) (fun j _ => n - (intOf j).toNat)
    case atStart => exact ⟨0, by omega, rfl, fun c h => absurd h (Nat.not_lt_zero _), 0, rfl⟩
    case round =>
      obtain ⟨i, hi, rfl, hno, d, rfl⟩ := hrel
      have HNo := Lib.hid hno
      clear hno
      by_cases hlt : i < n
      · obtain ⟨bl, ofs, rfl, hbl, hcl⟩ := HL.out (by omega)
        obtain ⟨bg, ofg, rfl, hbg, hcg⟩ := HL'.out (by omega)
        have c1 := hcl i hlt
        have c2 := hcg i hlt
        obtain ⟨x, hx⟩ : ∃ x, f i = x := ⟨_, rfl⟩
        obtain ⟨y, hy⟩ : ∃ y, g i = y := ⟨_, rfl⟩
        rw [hx] at c1
        rw [hy] at c2
        have HX := Lib.hid hx
        have HY := Lib.hid hy
        clear hcl hcg hx hy
        have hi1 : (i : Int) < (n : Int) := by omega
        by_cases hxy : x = y
        · subst hxy
          go_wp2_with fail
          go_quiet (fail)
          go_wp2_with fail
          go_roundw
          case rel =>
            refine ⟨i + 1, by omega, by go_num, fun c hc => ?_, _, rfl⟩
            by_cases e : c = i
            · subst e; rw [HX.out, HY.out]
            · exact HNo.out c (by omega)
          case measure => simp [intOf]; omega
        · have h0 : r = false := by rw [← HR.out]; exact decide_eq_false fun h => hxy (by rw [← HX.out, ← HY.out]; exact h.2 i hlt)
          subst h0
          have hne : (x != y) = true := by rw [bne_iff_ne]; exact hxy
          have hne2 : (x == y) = false := by rw [beq_eq_false_iff_ne]; exact hxy
          clear hxy
          go_wp2_with fail
          go_quiet (fail)
          go_wp2_with fail
          go_ret
          exact ⟨rfl, below_dn _ (below_dn _ (Below.refl _ _))⟩
      · have e : i = n := by omega
        subst e
        have h0 : r = true := by rw [← HR.out]; exact decide_eq_true ⟨rfl, HNo.out⟩
        subst h0
        go_wp2_with fail
        go_ret
        exact ⟨rfl, below_dn _ (Below.refl _ _)⟩
  · have h0 : r = false := by rw [← HR.out]; exact decide_eq_false fun h => hnm h.1
    subst h0
    have h1 : (n == m) = false := by simpa using hnm
    have h2 : ((n : Int) != (m : Int)) = true := by rw [bne_iff_ne]; omega
    clear hnm
    go_enter Try.func11, Try.ntmps11
    go_wp2_with fail
    go_ret
    exact ⟨rfl, Below.refl _ _⟩

def anyb (K : Nat) (p : Nat → Bool) : Bool := decide (∃ c, c < K ∧ p c = true)
def allb (K : Nat) (p : Nat → Bool) : Bool := decide (∀ c, c < K → p c = true)
theorem any_all (K : Nat) (p : Nat → Bool) : (!anyb K (fun c => !p c)) = allb K p := by
  unfold anyb allb
  rw [← decide_not]
  congr 1
  apply propext
  refine ⟨fun h c hc => ?_, fun h ⟨c, hc, hp⟩ => by simp [h c hc] at hp⟩
  cases hp : p c with
  | true => rfl
  | false => exact absurd ⟨c, hc, by simp [hp]⟩ h

def fewb (n : Nat) : Bool := decide (n ≤ 30 ∨ n = 65537 ∨ n = 65538)
/-- A short list that is a partition of as many elements as the first one. -/
def goodb (n : Nat) (f : Nat → Int) (n0 : Nat) : Bool := decide (n ≤ 30 ∧ pcd n f = 0 ∧ n = n0)
end Go.Proofs.Ytokjdlljhloflaa
