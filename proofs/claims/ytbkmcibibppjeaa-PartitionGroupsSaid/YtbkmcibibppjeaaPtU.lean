/- The specification: Under, Finer. -/
import Derived.Test.YtbkmcibibppjeaaPtT
import Derived.WalkKit
import Derived.WalkSpells
import Derived.WalkLawsBesides
import Derived.Handy
import Derived.Deep.QuietTactic
import Derived.BigQuiet
import Derived.Outline
import Derived.Laws.BitsAllLaws
import Derived.IntWalk
import Derived.Lib.SmallJoins
import Derived.Lib.Hide
import Derived.Deep.DeepCutAuto
import Derived.LoopTactic
import Derived.Deep.RegionWith
namespace Go.Proofs.Ytbkmcibibppjeaa
set_option linter.unusedVariables false
set_option linter.unusedSimpArgs false
open Go.RowKit Part

set_option maxRecDepth 100000 in
set_option maxHeartbeats 4000000 in
theorem under_any (n : Nat) (hn : n ≤ 65536) (f g : Nat → Int) (o p : Option Addr) (cap cap' : Nat) (w : World) (hL : Lz w o n f) (hL' : Lz w p n g) : Calls Try.prog 49 #[.slice o n cap, .slice p n cap'] w fun e w' => e = .returned (.bool (finb n f g)) ∧ Below w.heap.size w w' := by
  have HL := Lib.hid hL
  have HL' := Lib.hid hL'
  obtain ⟨r, hr⟩ : ∃ r, finb n f g = r := ⟨_, rfl⟩
  rw [hr]
  have HR0 := Lib.hid hr
  clear hL hL' hr
  go_enter Try.func49, Try.ntmps49
  go_wp2_with fail
  go_loopw [5] (fun j wr => ∃ i : Nat, i ≤ n ∧ j = .int .i64 (i : Int) ∧ (∀ i', i' < i → ∀ k, k < i' → f i' = f k → g i' = g k) ∧ ∃ d, wr = w.drewN d) (fun j _ => n - (intOf j).toNat)
  case atStart => exact ⟨0, by omega, rfl, fun i' h => absurd h (by omega), 0, rfl⟩
  case round =>
    obtain ⟨i, hi, rfl, hD, d, rfl⟩ := hrel
    have HD := Lib.hid hD
    clear hD
    by_cases hlt : i < n
    · obtain ⟨bl, ofs, rfl, hbl, hcl⟩ := HL.out (by omega)
      obtain ⟨bg, ofg, rfl, hbg, hcg⟩ := HL'.out (by omega)
      have c1 := hcl i hlt
      have c2 := hcg i hlt
      have HC := Lib.hid hcl
      have HG := Lib.hid hcg
      clear hcl hcg
      have hi1 : (i : Int) < (n : Int) := by omega
      go_wp2_with fail
      go_loopw [6] (fun j wr => ∃ k : Nat, k ≤ i ∧ j = .int .i64 (k : Int) ∧ (∀ k', k' < k → f i = f k' → g i = g k') ∧ ∃ d, wr = w.drewN d) (fun j _ => i - (intOf j).toNat)
      case atStart => exact ⟨0, by omega, rfl, fun i' h => absurd h (by omega), d, rfl⟩
      case round =>
        obtain ⟨k, hk, rfl, hE, d, rfl⟩ := hrel
        have HE := Lib.hid hE
        clear hE
        by_cases hki : k < i
        · have c3 := HC.out k (by omega)
          have c4 := HG.out k (by omega)
          have hk1 : (k : Int) < (n : Int) := by omega
          obtain ⟨u, hu⟩ : ∃ u, f i = u := ⟨_, rfl⟩
          obtain ⟨v, hv⟩ : ∃ v, f k = v := ⟨_, rfl⟩
          obtain ⟨x, hx⟩ : ∃ x, g i = x := ⟨_, rfl⟩
          obtain ⟨y, hy⟩ : ∃ y, g k = y := ⟨_, rfl⟩
          rw [hu] at c1
          rw [hx] at c2
          rw [hv] at c3
          rw [hy] at c4
          have HU := Lib.hid hu
          have HV := Lib.hid hv
          have HX := Lib.hid hx
          have HY := Lib.hid hy
          clear hu hv hx hy
          by_cases huv : u = v
          · subst huv
            by_cases hxy : x = y
            · subst hxy
              go_wp2_with fail
              go_quiet (fail)
              go_wp2_with fail
              go_roundw
              case rel =>
                refine ⟨k + 1, by omega, by go_num, fun k' hk' e => ?_, _, rfl⟩
                by_cases e2 : k' = k
                · subst e2; rw [HX.out, HY.out]
                · exact HE.out k' (by omega) e
              case measure => simp [intOf]; omega
            · have hne : (x != y) = true := by rw [bne_iff_ne]; exact hxy
              have hne2 : (x == y) = false := by rw [beq_eq_false_iff_ne]; exact hxy
              have hrf : r = false := by
                rw [← HR0.out]
                exact decide_eq_false fun H => hxy (by rw [← HX.out, ← HY.out]; exact H i hlt k (by omega) (by rw [HU.out, HV.out]))
              clear hxy
              subst hrf
              go_wp2_with fail
              go_quiet (fail)
              go_wp2_with fail
              go_ret
              exact ⟨rfl, below_dn _ (below_dn _ (Below.refl _ _))⟩
          · have hne : (u == v) = false := by rw [beq_eq_false_iff_ne]; exact huv
            have HN := Lib.hid huv
            clear huv
            go_wp2_with fail
            go_quiet (fail)
            go_wp2_with fail
            go_roundw
            case rel =>
              refine ⟨k + 1, by omega, by go_num, fun k' hk' e => ?_, _, rfl⟩
              by_cases e2 : k' = k
              · subst e2; exact absurd (HU.out.symm.trans (e.trans HV.out)) HN.out
              · exact HE.out k' (by omega) e
            case measure => simp [intOf]; omega
        · have e : k = i := by omega
          subst e
          clear hki
          go_wp2_with fail
          go_roundw
          case rel =>
            refine ⟨k + 1, by omega, by go_num, fun i' hi' k' hk' e => ?_, _, rfl⟩
            by_cases e2 : i' = k
            · subst e2; exact HE.out k' hk' e
            · exact HD.out i' (by omega) k' hk' e
          case measure => simp [intOf]; omega
    · have e : i = n := by omega
      subst e
      have hrt : r = true := by
        rw [← HR0.out]
        refine decide_eq_true fun x hx y hy e => ?_
        rcases Nat.lt_trichotomy x y with h | h | h
        · exact (HD.out y hy x h e.symm).symm
        · rw [h]
        · exact HD.out x hx y h e
      subst hrt
      go_wp2_with fail
      go_ret
      exact ⟨rfl, below_dn _ (Below.refl _ _)⟩
theorem rfin_good (n : Nat) (f g : Nat → Int) (hf : Good n f) (hg : Good n g) (o p : Option Addr) (cap cap' : Nat) (w : World) (hL : Lz w o n f) (hL' : Lz w p n g) : Calls Try.prog 26 #[.slice o n cap, .slice p n cap'] w fun e w' => e = .returned (.tuple #[.bool (finb n f g), .int .i64 0]) ∧ Below w.heap.size w w' := by
  have H := Lib.hid (both_any n n f g o p cap cap' w hL hL')
  rw [(pcd2_zero n f n g).2 ⟨hf, hg, rfl⟩] at H
  have HU := Lib.hid (under_any n hf.1 f g o p cap cap' w hL hL')
  clear hL hL' hf hg
  go_enter Try.func26, Try.ntmps26
  go_wp2_with fail
  refine H.out.mono ?_
  rintro e w' ⟨rfl, rfl⟩
  go_wp2_with fail
  refine HU.out.mono ?_
  rintro e w1 ⟨rfl, hb⟩
  have HB := Lib.hid hb
  clear hb
  go_wp2_with fail
  go_ret2
  exact ⟨rfl, HB.out⟩
end Go.Proofs.Ytbkmcibibppjeaa
