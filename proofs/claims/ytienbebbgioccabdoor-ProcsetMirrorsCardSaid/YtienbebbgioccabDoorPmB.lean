/- The law ProcsetMirrors. -/
import Derived.Test.YtienbebbgioccabDoorPmA
import Derived.WalkKit
import Derived.WalkSpells
import Derived.WalkLawsBesides
import Derived.Handy
import Derived.Deep.QuietTactic
import Derived.BigQuiet
import Derived.Outline
import Derived.Laws.BitsAllLaws
import Derived.IntWalk
import Derived.Lib.SmallJoins
import Derived.Lib.Hide
import Derived.Deep.DeepCutAuto
import Derived.LoopTactic
import Derived.Deep.RegionWith
namespace Go.Proofs.YtienbebbgioccabDoor
set_option linter.unusedVariables false
set_option linter.unusedSimpArgs false
open Go.RowKit

set_option maxRecDepth 100000 in
set_option maxHeartbeats 40000000 in
theorem mirrors_ok (n s k : Int) (w : World) (hg : Good w) : Calls Tryd.prog 3 #[.int .i64 n, .int .i64 s, .int .i64 k] w fun e w' => e = .returned (.bool true) ∧ Below w.heap.size w w' := by
  rcases pbad n s with ⟨c, h0, h1⟩ | ⟨N, S, rfl, rfl, h⟩
  · have H1 := Lib.hid (fun w => size_bad n s c h0 h1 w)
    have HG := Lib.hid hg
    have hb : (c != 0) = true := by simpa using h0
    clear h1 hg h0
    go_enter Tryd.func3, Tryd.ntmps3
    go_wp2_with fail
    refine (H1.out _).mono ?_
    rintro e w' ⟨rfl, rfl⟩
    go_wp2_with fail
    refine (awake_good _ HG.out).mono ?_
    rintro e W10 ⟨rfl, hB⟩
    have B10 : Hid (Below w.heap.size w W10) := Lib.hid hB
    clear hB
    go_wp2_with fail
    go_ret
    exact ⟨rfl, B10.out⟩
  have hs := h.lt
  have HZ := Lib.hid (fun w => size_okn N S h w)
  have HG := Lib.hid hg
  have hu5 := num_le S
  by_cases hk : k < 0 ∨ (num S : Int) < k
  · obtain ⟨u, hu⟩ : ∃ u, num S = u := ⟨_, rfl⟩
    rw [hu] at HZ hk hu5
    clear hu hg h hs
    rcases hk with hk | hk
    · go_enter Tryd.func3, Tryd.ntmps3
      go_wp2_with fail
      refine (HZ.out _).mono ?_
      rintro e w' ⟨rfl, rfl⟩
      go_wp2_with fail
      refine (awake_good _ HG.out).mono ?_
      rintro e W10 ⟨rfl, hB⟩
      have B10 : Hid (Below w.heap.size w W10) := Lib.hid hB
      clear hB
      go_wp2_with fail
      go_ret
      exact ⟨rfl, B10.out⟩
    · have hk0 : 0 ≤ k := by omega
      go_enter Tryd.func3, Tryd.ntmps3
      go_wp2_with fail
      refine (HZ.out _).mono ?_
      rintro e w' ⟨rfl, rfl⟩
      go_wp2_with fail
      refine (awake_good _ HG.out).mono ?_
      rintro e W10 ⟨rfl, hB⟩
      have B10 : Hid (Below w.heap.size w W10) := Lib.hid hB
      clear hB
      go_wp2_with fail
      go_ret
      exact ⟨rfl, B10.out⟩
  · obtain ⟨q, rfl⟩ := Int.eq_ofNat_of_zero_le (show 0 ≤ k by omega)
    have hq : q ≤ num S := by omega
    obtain ⟨hl1, hl2, hl3⟩ := mirF_len ⟨S, hs⟩ ⟨q, by omega⟩ hq
    have HM : Hid (∀ i, i < (chn S q).length → (chn S (num S - q)).getD ((chn S q).length - 1 - i) 0 + (chn S q).getD i 0 = S) := Lib.hid (fun i hi => by
      have h2 := mirF_at ⟨S, hs⟩ ⟨q, by omega⟩ hq ⟨i, by simp only at hl3; omega⟩ hi
      simp only at h2
      rw [List.getD_eq_getElem?_getD (l := chn S q), List.getElem?_eq_getElem hi]
      exact h2)
    have HC1 : Hid (∀ W, Calls Tryd.prog 6 #[.int .i64 (N : Int), .int .i64 (S : Int), .int .i64 (q : Int)] W (LRes (chn S q) 0 W.heap.size W)) := Lib.hid (fun W => choose_okn N S h (q : Int) (by omega) W)
    have HC2 : Hid (∀ W, Calls Tryd.prog 6 #[.int .i64 (N : Int), .int .i64 (S : Int), .int .i64 ((num S : Int) - (q : Int))] W (LRes (chn S (num S - q)) 0 W.heap.size W)) := Lib.hid (fun W => by
      have h2 := choose_okn N S h ((num S : Int) - (q : Int)) (by omega) W
      rw [show (num S : Int) - (q : Int) = ((num S - q : Nat) : Int) by omega] at h2 ⊢
      exact h2)
    have HLe := Lib.hid (fun W hT => least_okn N S h W hT)
    have HL0 := Lib.hid (leaF_zero ⟨S, hs⟩)
    have HL1 := Lib.hid (leaF ⟨N, by have := h.2.1; omega⟩ ⟨S, hs⟩ h.2.2)
    simp only at hl1 hl2 hl3
    obtain ⟨b, hb⟩ : ∃ b, chn S (num S - q) = b := ⟨_, rfl⟩
    obtain ⟨a, ha⟩ : ∃ a, chn S q = a := ⟨_, rfl⟩
    rw [hb] at hl1 HM HC2
    rw [ha] at hl1 hl2 hl3 HC1 HM
    obtain ⟨u, hu⟩ : ∃ u, num S = u := ⟨_, rfl⟩
    rw [hu] at HZ hq hu5 HC2
    simp only [hu] at HL0 HL1
    obtain ⟨z, hz⟩ : ∃ z, lea S = z := ⟨_, rfl⟩
    rw [hz] at HLe
    simp only [hz] at HL0 HL1
    have hqi : (q : Int) ≤ (u : Int) := by omega
    have hS : (S : Int) < 32 := by omega
    clear hb ha hu hz hg h hk hs
    go_enter Tryd.func3, Tryd.ntmps3
    go_wp2_with fail
    refine (HZ.out _).mono ?_
    rintro e w' ⟨rfl, rfl⟩
    clear HZ
    go_wp2_with fail
    refine (HC1.out _).mono ?_
    rintro e W1 ⟨v1, rfl, hB1, hL1⟩
    have B1 : Hid (Below w.heap.size w W1) := Lib.hid hB1
    obtain ⟨g1, cap1, rfl, hg1, hcell1⟩ := lies_some hL1 hl2
    have HX1 := Lib.hid hcell1
    clear hB1 hL1 hcell1 HC1
    go_wp2_with fail
    refine (HC2.out _).mono ?_
    rintro e W2 ⟨v2, rfl, hB2, hL2⟩
    have B2 : Hid (Below w.heap.size w W2) := Lib.hid (bt B1.out hB2)
    obtain ⟨g2, cap2, rfl, hg2, hcell2⟩ := lies_some hL2 (by omega)
    have HA := Lib.hid (fun i h => HX1.out W2 i hB2 h)
    have HBc := Lib.hid (fun i h => hcell2 W2 i (Below.refl _ _) h)
    clear hB2 hL2 hcell2 HC2 HX1 B1
    have hli : (a.length : Int) = (b.length : Int) := by omega
    have HLab := Lib.hid hl1
    rw [← hl1]
    clear hli hl1
    go_wp2_with fail
    go_loop [66] (fun j => ∃ i : Nat, i ≤ a.length ∧ j = .int .i64 (i : Int)) (fun j => a.length - (intOf j).toNat)
    case atStart => exact ⟨0, by omega, rfl⟩
    case round =>
      obtain ⟨i, hile, rfl⟩ := hrel
      by_cases hlt : i < a.length
      · have hc := HA.out i hlt
        have hm := HM.out i hlt
        obtain ⟨j, hj⟩ : ∃ j, a.length - 1 - i = j := ⟨_, rfl⟩
        have hjb : j < b.length := by have := HLab.out; omega
        have hd := HBc.out j hjb
        rw [hj, List.getD_eq_getElem?_getD, List.getD_eq_getElem?_getD, List.getElem?_eq_getElem hjb, List.getElem?_eq_getElem hlt] at hm
        simp only [Option.getD_some] at hm
        obtain ⟨x, hx⟩ : ∃ x, a[i] = x := ⟨_, rfl⟩
        obtain ⟨y, hy⟩ : ∃ y, b[j] = y := ⟨_, rfl⟩
        rw [hx] at hc hm
        rw [hy] at hd hm
        have hji : (a.length : Int) - 1 - (i : Int) = (j : Int) := by omega
        have hxy : (S : Int) - (x : Int) = (y : Int) := by omega
        clear hx hy hm hj hjb
        go_wp2_with fail
        go_round
        case rel => exact ⟨i + 1, by omega, by first | rfl | go_num⟩
        case measure => simp [intOf] <;> omega
      · have hil : i = a.length := by omega
        subst hil
        clear HA HBc HM
        go_wp2_with fail
        refine (HLe.out _ (HG.out.below B2.out).tab).mono ?_
        rintro e W3 ⟨rfl, hB⟩
        have B3 : Hid (Below w.heap.size w W3) := Lib.hid (bt B2.out hB)
        clear hB B2 HLe
        by_cases hu0 : u = 0
        · have hz := HL0.out hu0
          subst hz
          have hu0i : (u : Int) = 0 := by omega
          go_wp2_with fail
          refine (awake_good _ (HG.out.below B3.out)).mono ?_
          rintro e W10 ⟨rfl, hB⟩
          have B10 : Hid (Below w.heap.size w W10) := Lib.hid (bt B3.out hB)
          clear hB B3
          go_wp2_with fail
          go_ret
          exact ⟨rfl, B10.out⟩
        · obtain ⟨hz2, hz0, hzN, hz5, hb1, hb2⟩ := HL1.out hu0
          obtain ⟨p0, c0⟩ := z
          simp only at hz2 hz0 hzN hz5 hb1 hb2
          subst hz2
          obtain ⟨p, rfl⟩ := Int.eq_ofNat_of_zero_le hz0
          simp only [Int.toNat_natCast] at hb1 hb2
          have hp5 : p < 5 := by omega
          have hup : (0 : Int) < (u : Int) := by omega
          clear HL0 HL1 hu0
          have hbb1 : (bits .and .i64 ((S : Int) / (2 : Int) ^ p) 1 == 1) = true := by rw [hb1]; rfl
          have ew : wrap64 ((2 : Int) ^ p) = (2 : Int) ^ p := by
            have e : ((2 : Int) ^ p) = ((2 ^ p : Nat) : Int) := by simp
            have hq : 2 ^ p ≤ 32 := Nat.pow_le_pow_right (n := 2) (by omega) (show p ≤ 5 by omega)
            rw [e]
            generalize 2 ^ p = z at hq
            rw [IntWalk.wrap64_in _ (by omega)]
          have hpw : 1 ≤ (2 : Int) ^ p ∧ (2 : Int) ^ p ≤ 32 := by
            have e : ((2 : Int) ^ p) = ((2 ^ p : Nat) : Int) := by simp
            have hq : 2 ^ p ≤ 32 := Nat.pow_le_pow_right (n := 2) (by omega) (show p ≤ 5 by omega)
            have hq1 : 1 ≤ 2 ^ p := Nat.pow_pos (by omega)
            rw [e]; omega
          have hbb2 : (bits .and .i64 (S : Int) (wrap64 (wrap64 ((2 : Int) ^ p) - 1)) == 0) = true := by rw [ew, IntWalk.wrap64_in _ (by omega), hb2]; rfl
          have hwp : 1 ≤ wrap64 ((2 : Int) ^ p) ∧ wrap64 ((2 : Int) ^ p) ≤ 32 := by rw [ew]; exact hpw
          clear hb1 hb2 ew hpw
          obtain ⟨hw1, hw2⟩ := hwp
          go_wp2_with fail
          refine (awake_good _ (HG.out.below B3.out)).mono ?_
          rintro e W10 ⟨rfl, hB⟩
          have B10 : Hid (Below w.heap.size w W10) := Lib.hid (bt B3.out hB)
          clear hB B3
          go_wp2_with fail
          go_ret
          exact ⟨rfl, B10.out⟩
end Go.Proofs.YtienbebbgioccabDoor
