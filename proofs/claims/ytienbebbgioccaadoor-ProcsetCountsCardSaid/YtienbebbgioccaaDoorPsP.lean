/- The specification of procset: Parse. -/
import Derived.Test.YtienbebbgioccaaDoorPsO
import Derived.WalkKit
import Derived.WalkSpells
import Derived.WalkLawsBesides
import Derived.Handy
import Derived.Deep.QuietTactic
import Derived.BigQuiet
import Derived.Outline
import Derived.Laws.BitsAllLaws
import Derived.IntWalk
import Derived.Lib.SmallJoins
import Derived.Lib.Hide
import Derived.Deep.DeepCutAuto
import Derived.LoopTactic
import Derived.Deep.RegionWith
namespace Go.Proofs.YtienbebbgioccaaDoor
set_option linter.unusedVariables false
set_option linter.unusedSimpArgs false
open Go.RowKit

theorem bit_or (a p q : Nat) : (a ||| 2 ^ p) / 2 ^ q % 2 = 1 ↔ (a / 2 ^ q % 2 = 1 ∨ p = q) := by
  have h1 := Nat.testBit_eq_decide_div_mod_eq (x := a ||| 2 ^ p) (i := q)
  have h2 := Nat.testBit_eq_decide_div_mod_eq (x := a) (i := q)
  rw [Nat.testBit_or, Nat.testBit_two_pow, h2] at h1
  by_cases h : a / 2 ^ q % 2 = 1 <;> by_cases hp : p = q <;> simp_all
theorem ofz_bit (N : Nat) : ∀ (l : List Int) (acc : Nat), (ofz N acc l).2 = 0 → ∀ x ∈ l, ¬ acc / 2 ^ x.toNat % 2 = 1
  | [], _, _, x, hx => by simp at hx
  | y :: r, acc, h, x, hx => by
    unfold ofz at h
    by_cases h1 : y < 0 ∨ (N : Int) ≤ y
    · rw [if_pos h1] at h; simp at h
    · rw [if_neg h1] at h
      by_cases h2 : acc / 2 ^ y.toNat % 2 = 1
      · rw [if_pos h2] at h; simp at h
      · rw [if_neg h2] at h
        rcases List.mem_cons.1 hx with rfl | hx
        · exact h2
        · intro h3
          exact ofz_bit N r _ h x hx ((bit_or _ _ _).2 (.inl h3))
theorem ofz_nodup (N : Nat) : ∀ (l : List Int) (acc : Nat), (ofz N acc l).2 = 0 → l.Nodup
  | [], _, _ => List.nodup_nil
  | y :: r, acc, h => by
    unfold ofz at h
    by_cases h1 : y < 0 ∨ (N : Int) ≤ y
    · rw [if_pos h1] at h; simp at h
    · rw [if_neg h1] at h
      by_cases h2 : acc / 2 ^ y.toNat % 2 = 1
      · rw [if_pos h2] at h; simp at h
      · rw [if_neg h2] at h
        refine List.nodup_cons.2 ⟨fun hy => ?_, ofz_nodup N r _ h⟩
        exact ofz_bit N r _ h y hy ((bit_or _ _ _).2 (.inr rfl))
theorem near_ne {N : Nat} {l : List Nat} (h : (ofz N 0 (zl l)).2 = 0) (k : Nat) (hk : k + 1 < l.length) : l[k + 1] ≠ l[k]'(Nat.lt_of_succ_lt hk) := by
  intro e
  have hn := ofz_nodup N _ _ h
  have hl1 : k + 1 < (zl l).length := by rw [zl_len]; exact hk
  have hl0 : k < (zl l).length := by omega
  have h4 : (zl l)[k + 1] = (zl l)[k] := by simp [zl, e]
  have h3 := (List.getElem_inj (h₀ := hl1) (h₁ := hl0) hn).1 h4
  omega

theorem rparse_n (n : Int) (h : NOut n) (s : ByteArray) (w : World) : Calls Tryd.prog 31 #[.int .i64 n, .string s] w fun e w' => e = .returned (.tuple #[.int .i64 0, .int .i64 1]) ∧ w = w' := by
  have H := Lib.hid (fun w => rprocs_n n h w)
  clear h
  go_enter Tryd.func31, Tryd.ntmps31
  go_wp2_with fail
  refine (H.out _).mono ?_
  rintro e w' ⟨rfl, rfl⟩
  go_wp2_with fail
  go_ret2
  exact ⟨rfl, rfl⟩

set_option maxRecDepth 100000 in
set_option maxHeartbeats 8000000 in
theorem rparse_okn (N : Nat) (h1 : 1 ≤ N ∧ N ≤ 5) (s : ByteArray) (hs : s.size ≤ 1000000) (w : World) :
    Calls Tryd.prog 31 #[.int .i64 (N : Int), .string s] w (PRes (pz N s) w.heap.size w) := by
  have H := Lib.hid (fun w => rprocs_ok (N : Int) (by omega) w)
  by_cases hlong : 24 < s.size
  · have Hz : Hid (pz N s = (0, 13)) := Lib.hid (by unfold pz; rw [if_pos hlong])
    have hli : (24 : Int) < (s.size : Int) := by omega
    clear hlong h1
    go_enter Tryd.func31, Tryd.ntmps31
    go_wp2_with fail
    refine (H.out _).mono ?_
    rintro e w' ⟨rfl, rfl⟩
    go_wp2_with fail
    go_ret2
    exact pres Hz.out (Below.refl _ _)
  have HD := Lib.hid (numbers_any s hs w)
  have hli : (s.size : Int) ≤ 24 := by omega
  obtain ⟨z, hz⟩ : ∃ z, pz N s = z := ⟨_, rfl⟩
  unfold pz at hz
  rw [if_neg hlong] at hz
  have Hlen := Lib.hid (fun l h => dgz_len (s := s) (l := l) h)
  have e0 : pz N s = z := by unfold pz; rw [if_neg hlong]; exact hz
  rw [e0]
  clear e0 hlong
  have Hz := Lib.hid hz
  have H1 := Lib.hid h1
  clear hz h1
  go_enter Tryd.func31, Tryd.ntmps31
  go_wp2_with fail
  refine (H.out _).mono ?_
  rintro e w' ⟨rfl, rfl⟩
  go_wp2_with fail
  refine HD.out.mono ?_
  rintro e W ⟨hB, hm⟩
  clear HD
  have HB := Lib.hid hB
  cases hdg : dgz s with
  | none =>
    rw [hdg] at hm
    have hz := Hz.out
    rw [hdg] at hz
    have Hz2 := Lib.hid hz.symm
    clear Hz Hlen hdg hz hB
    obtain ⟨v, rfl⟩ := hm
    go_wp2_with fail
    go_ret2
    exact pres Hz2.out HB.out
  | some l =>
    rw [hdg] at hm
    have hz := Hz.out
    rw [hdg] at hz
    simp only at hz
    have hll : l.length ≤ 1000000 := Nat.le_trans (Hlen.out l hdg) hs
    clear Hz Hlen hdg hB
    obtain ⟨v, rfl, hL⟩ := hm
    have HO := Lib.hid (rof_lies N H1.out l hll v W hL)
    have Hnd : Hid ((ofz N 0 (zl l)).2 = 0 → ∀ k, (h : k + 1 < l.length) → l[k + 1] ≠ l[k]'(Nat.lt_of_succ_lt h)) := Lib.hid (fun h => near_ne h)
    obtain ⟨a, ha⟩ : ∃ a, (ofz N 0 (zl l)).1 = a := ⟨_, rfl⟩
    obtain ⟨c, hc⟩ : ∃ c, (ofz N 0 (zl l)).2 = c := ⟨_, rfl⟩
    rw [ha, hc] at HO hz
    rw [hc] at Hnd
    clear ha hc
    by_cases hc0 : c = 0
    · rw [if_neg (not_not_intro hc0)] at hz
      subst hc0
      have Hne := Lib.hid (Hnd.out rfl)
      rcases hL.form with ⟨rfl, h0⟩ | ⟨g, cg, rfl, hg, hcg, HG⟩
      · have hnd : ¬ Desc l := fun ⟨k, h, _⟩ => by omega
        rw [if_neg hnd] at hz
        have Hz2 := Lib.hid hz.symm
        clear hnd hz hL
        go_wp2_with fail
        refine HO.out.mono ?_
        rintro e w' ⟨rfl, rfl⟩
        go_wp2_with fail
        go_rounds 1
        go_ret2
        exact pres Hz2.out HB.out
      · have HG' := Lib.hid HG
        have Hz2 := Lib.hid hz
        clear hz hL HG
        go_wp2_with fail
        refine HO.out.mono ?_
        rintro e w' ⟨rfl, rfl⟩
        go_wp2_with fail
        go_loopw [11] (fun j wr => ∃ i : Nat, 1 ≤ i ∧ i ≤ l.length + 1 ∧ j = .int .i64 i ∧ (∃ d, wr = W.drewN d) ∧ Ups l i) (fun j _ => l.length - (intOf j).toNat)
        case atStart => exact ⟨1, by omega, by omega, rfl, ⟨0, rfl⟩, fun k hk => by omega⟩
        case round =>
          obtain ⟨i, hi1, hi, rfl, ⟨d, rfl⟩, hup⟩ := hrel
          have Hup := Lib.hid hup
          clear hup
          have Hbl : Hid (Below w.heap.size w (W.drewN d)) := Lib.hid (below_dn d HB.out)
          by_cases hlt : i < l.length
          · obtain ⟨k, hk⟩ : ∃ k, i = k + 1 := ⟨i - 1, by omega⟩
            have hwk : IntKind.i64.wrap ((i : Int) - 1) = (k : Int) := by
              rw [IntWalk.i64_in _ (by omega)]; omega
            have hb : Below W.heap.size W (W.drewN d) := below_dn d (Below.refl _ _)
            have hkl : (k : Int) < (l.length : Int) := by omega
            have c0 := HG'.out _ i hb hlt
            have d0 := HG'.out _ k hb (by omega)
            by_cases hless : l[i] < l[k]'(by omega)
            · have hdesc : Desc l := ⟨k, by omega, by subst hk; exact hless⟩
              have Hz3 : Hid (z = (0, 14)) := Lib.hid (by
                have h := Hz2.out
                rw [if_pos hdesc] at h
                exact h.symm)
              have hnn : l[i] ≠ l[k]'(by omega) := by subst hk; exact Hne.out k hlt
              obtain ⟨y, hy⟩ : ∃ y, l[i] = y := ⟨_, rfl⟩
              obtain ⟨x, hx⟩ : ∃ x, l[k]'(by omega) = x := ⟨_, rfl⟩
              rw [hy, hx] at hless hnn
              rw [hy] at c0
              rw [hx] at d0
              have hyx : (y : Int) ≤ (x : Int) := by omega
              clear hy hx hdesc hb hk hless hnn
              simp at c0 d0
              go_wp2_with fail
              (try go_quiet (fail))
              (try go_wp2_with fail)
              go_ret2
              exact pres Hz3.out (by first | exact Hbl.out | exact below_dn _ Hbl.out)
            · have HN : Hid (Ups l (i + 1)) := Lib.hid (fun q hq h => by
                by_cases hqk : q + 1 < i
                · exact Hup.out q hqk h
                · have e : q = k := by omega
                  subst e; subst hk; exact hless)
              have hnn : l[i] ≠ l[k]'(by omega) := by subst hk; exact Hne.out k hlt
              obtain ⟨y, hy⟩ : ∃ y, l[i] = y := ⟨_, rfl⟩
              obtain ⟨x, hx⟩ : ∃ x, l[k]'(by omega) = x := ⟨_, rfl⟩
              rw [hy, hx] at hless hnn
              rw [hy] at c0
              rw [hx] at d0
              have hyx : (x : Int) < (y : Int) := by omega
              clear hy hx hb hk hless hnn
              simp at c0 d0
              go_wp2_with fail
              (try go_quiet (fail))
              (try go_wp2_with fail)
              go_roundw
              case rel => exact ⟨i + 1, by omega, by omega, by go_num, ⟨_, by first | rfl | (simp only [World.drewN_drewN]; rfl)⟩, HN.out⟩
              case measure => simp [intOf]; omega
          · have hdesc : ¬ Desc l := fun ⟨k, h, h2⟩ => Hup.out k (by omega) h h2
            have Hz3 : Hid (z = (a, 0)) := Lib.hid (by
              have h := Hz2.out
              rw [if_neg hdesc] at h
              exact h.symm)
            clear hdesc
            go_wp2_with fail
            go_ret2
            exact pres Hz3.out (by first | exact Hbl.out | exact below_dn _ Hbl.out)
    · rw [if_pos hc0] at hz
      have Hz2 := Lib.hid hz.symm
      have hcb : (c != 0) = true := by simpa using hc0
      clear hz hL hc0
      go_wp2_with fail
      refine HO.out.mono ?_
      rintro e w' ⟨rfl, rfl⟩
      go_wp2_with fail
      go_ret2
      exact pres Hz2.out HB.out
end Go.Proofs.YtienbebbgioccaaDoor
