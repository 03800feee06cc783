/- Package partition and its specification: numbers of classes; whether two elements are in one class. -/
import Derived.Test.YtokjdlljhloflaaPtR
import Derived.WalkKit
import Derived.WalkSpells
import Derived.WalkLawsBesides
import Derived.Handy
import Derived.Deep.QuietTactic
import Derived.BigQuiet
import Derived.Outline
import Derived.Laws.BitsAllLaws
import Derived.IntWalk
import Derived.Lib.SmallJoins
import Derived.Lib.Hide
import Derived.Deep.DeepCutAuto
import Derived.LoopTactic
import Derived.Deep.RegionWith
namespace Go.Proofs.Ytokjdlljhloflaa
set_option linter.unusedVariables false
set_option linter.unusedSimpArgs false
open Go.RowKit Part

theorem below_dn {B : Nat} {w W : World} (n : Nat) (h : Below B w W) : Below B w (W.drewN n) := ⟨h.os, h.tape, h.output, h.size, h.block⟩
theorem mx_from (a : Nat → Nat) {n : Nat} (h : Wf n a) : ∀ k i, i + k = n → mx (cnt a i) (((List.range n).map a).drop i) = cnt a n
  | 0, i, e => by
    rw [List.drop_eq_nil_of_le (by simp; omega)]
    have : i = n := by omega
    subst this; rfl
  | k + 1, i, e => by
    have hl : i < ((List.range n).map a).length := by simp; omega
    rw [List.drop_eq_getElem_cons hl]
    have e2 : ((List.range n).map a)[i] = a i := by simp
    rw [e2]
    show mx (max (cnt a i) (a i + 1)) _ = _
    have hw := h i (by omega)
    have hc : max (cnt a i) (a i + 1) = cnt a (i + 1) := by
      show _ = (if a i = cnt a i then cnt a i + 1 else cnt a i)
      split <;> omega
    rw [hc]
    exact mx_from a h k (i + 1) (by omega)
theorem mx_cnt (n : Nat) (a : Nat → Nat) (h : Wf n a) : mx 0 ((List.range n).map a) = cnt a n := by
  have h1 := mx_from a h n 0 (by omega)
  rw [List.drop_zero] at h1
  exact h1

theorem count_any (n : Nat) (f : Nat → Int) (hf : Good n f) (o : Option Addr) (cap : Nat) (w : World) (h : Lz w o n f) : Calls Try.prog 33 #[.slice o n cap] w fun e w' => e = .returned (.int .i64 ((cnt (nat f) n : Nat) : Int)) ∧ w = w' := by
  by_cases h0 : n = 0
  · subst h0
    exact ptcount_empty o cap w
  · obtain ⟨b, off, rfl, hb, hc⟩ := h (by omega)
    have hA : Arz w b off (zn ((List.range n).map (nat f))) := fun i hi => by
      have hi2 : i < n := by simpa [zn] using hi
      have e : (zn ((List.range n).map (nat f)))[i] = f i := by
        have h1 := hf.2.1 i hi2
        simp [zn, nat]
        omega
      rw [e]
      exact hc i hi2
    have h2 := ptcount_list ((List.range n).map (nat f)) (by simp; exact hf.1) (by
      intro x hx
      obtain ⟨i, hi, rfl⟩ := List.mem_map.1 hx
      have h1 := List.mem_range.1 hi
      have h3 := hf.2.2 i h1
      have h4 := cnt_small (nat f) i
      have := hf.1
      omega) b off cap w hA
    rw [mx_cnt n (nat f) hf.2.2] at h2
    simpa using h2

end Go.Proofs.Ytokjdlljhloflaa
