/- Package partition and its specification: Finer. -/
import Derived.Test.YtbkmcibibppjeaaPtS
import Derived.WalkKit
import Derived.WalkSpells
import Derived.WalkLawsBesides
import Derived.Handy
import Derived.Deep.QuietTactic
import Derived.BigQuiet
import Derived.Outline
import Derived.Laws.BitsAllLaws
import Derived.IntWalk
import Derived.Lib.SmallJoins
import Derived.Lib.Hide
import Derived.Deep.DeepCutAuto
import Derived.LoopTactic
import Derived.Deep.RegionWith
namespace Go.Proofs.Ytbkmcibibppjeaa
set_option linter.unusedVariables false
set_option linter.unusedSimpArgs false
open Go.RowKit Part

/-- Whether f is finer than g. -/
def finb (n : Nat) (f g : Nat → Int) : Bool := decide (∀ i, i < n → ∀ j, j < n → f i = f j → g i = g j)
theorem finb_yes {n : Nat} {f g : Nat → Int} (hf : Good n f) (h : ∀ j, j < n → g j = g (fst (nat f) j)) : finb n f g = true := by
  refine decide_eq_true fun i hi j hj e => ?_
  rw [h i hi, h j hj, fst_eq hf.2.2 hi hj (show (f i).toNat = (f j).toNat by rw [e])]
theorem finb_no {n : Nat} {f g : Nat → Int} (hf : Good n f) {i : Nat} (hi : i < n) (h : g i ≠ g (fst (nat f) i)) : finb n f g = false := by
  refine decide_eq_false fun H => h ?_
  have h1 := fst_of hf.2.2 hi
  have h2 := hf.2.1 i hi
  have h3 := hf.2.1 (fst (nat f) i) (by omega)
  have h4 : (f (fst (nat f) i)).toNat = (f i).toNat := h1.2.2
  exact H i hi _ (by omega) (by omega)

theorem fin_bad (n m : Nat) (f g : Nat → Int) (c : Int) (hc : pcd2 n f m g = c) (h0 : c ≠ 0) (o p : Option Addr) (cap cap' : Nat) (w : World) (hL : Lz w o n f) (hL' : Lz w p m g) : Calls Try.prog 25 #[.slice o n cap, .slice p m cap'] w fun e w' => e = .returned (.tuple #[.bool false, .int .i64 c]) ∧ w = w' := by
  have H := Lib.hid (pair_any n m f g o p cap cap' w hL hL')
  rw [hc] at H
  have h1 : (c != 0) = true := by rw [bne_iff_ne]; exact h0
  clear hL hL' hc h0
  go_enter Try.func25, Try.ntmps25
  go_wp2_with fail
  refine H.out.mono ?_
  rintro e w' ⟨rfl, rfl⟩
  go_wp2_with fail
  go_ret2
  exact ⟨rfl, rfl⟩

theorem rfin_bad (n m : Nat) (f g : Nat → Int) (c : Int) (hc : pcd2 n f m g = c) (h0 : c ≠ 0) (o p : Option Addr) (cap cap' : Nat) (w : World) (hL : Lz w o n f) (hL' : Lz w p m g) : Calls Try.prog 26 #[.slice o n cap, .slice p m cap'] w fun e w' => e = .returned (.tuple #[.bool false, .int .i64 c]) ∧ w = w' := by
  have H := Lib.hid (both_any n m f g o p cap cap' w hL hL')
  rw [hc] at H
  have h1 : (c != 0) = true := by rw [bne_iff_ne]; exact h0
  clear hL hL' hc h0
  go_enter Try.func26, Try.ntmps26
  go_wp2_with fail
  refine H.out.mono ?_
  rintro e w' ⟨rfl, rfl⟩
  go_wp2_with fail
  go_ret2
  exact ⟨rfl, rfl⟩

/-- What Finer has found up to place i. -/
def FIn (w : World) (f g : Nat → Int) (i : Nat) (v : Value) (V : World) : Prop :=
  Row V w.heap.size v ((lst (nat f) i).map g) ∧ (∀ j, j < i → g j = g (fst (nat f) j)) ∧ Below w.heap.size w V

set_option maxRecDepth 100000 in
set_option maxHeartbeats 4000000 in
theorem fin_good (n : Nat) (f g : Nat → Int) (hf : Good n f) (hg : Good n g) (o p : Option Addr) (cap cap' : Nat) (w : World) (hL : Lz w o n f) (hL' : Lz w p n g) : Calls Try.prog 25 #[.slice o n cap, .slice p n cap'] w fun e w' => e = .returned (.tuple #[.bool (finb n f g), .int .i64 0]) ∧ Below w.heap.size w w' := by
  have H := Lib.hid (pair_any n n f g o p cap cap' w hL hL')
  rw [(pcd2_zero n f n g).2 ⟨hf, hg, rfl⟩] at H
  obtain ⟨i0, hi0, hz0, hz1, hz2⟩ := info_parts infoI
  have hn := hf.1
  have HF := Lib.hid hf
  have HL := Lib.hid hL
  have HL' := Lib.hid hL'
  obtain ⟨r, hr⟩ : ∃ r, finb n f g = r := ⟨_, rfl⟩
  rw [hr]
  have HR0 := Lib.hid hr
  clear hL hL' hf hg hr
  go_enter Try.func25, Try.ntmps25
  go_wp2_with fail
  refine H.out.mono ?_
  rintro e w' ⟨rfl, rfl⟩
  go_wp2_with (at_make; refine wpList_make_own _ rfl _ _ 22 rfl w.heap.size 3 i0 (.int .i64 0) 1 Try.underlying22 hi0 hz0 hz1 _ _ _ n rfl rfl rfl (by rw [hz2]; omega) (by unfold maxLen; omega) (Nat.le_refl _) ?_; intro w1 hown hgrow; have HRow := Lib.hid (show Row w1 w.heap.size (.slice (some ⟨w.heap.size, 0, none⟩) 0 n) [] from hown); have HB1 := Lib.hid ((Below.refl w.heap.size w).grown hgrow (Nat.le_refl _) (fun k e => by cases e)); clear hown hgrow)
  go_loopw [7, 21] (fun v j wr => ∃ i : Nat, i ≤ n ∧ j = .int .i64 (i : Int) ∧ FIn w f g i v wr) (fun _ j _ => n - (intOf j).toNat)
  case atStart => exact ⟨0, by omega, rfl, HRow.out, fun j hj => absurd hj (by omega), HB1.out⟩
  case round =>
    clear HRow HB1
    obtain ⟨i, hi, rfl, hR, hD, hB⟩ := hrel
    have HR := Lib.hid hR
    have HD := Lib.hid hD
    have HB := Lib.hid hB
    clear hR hD hB hi0 hz0 hz1 hz2
    by_cases hlt : i < n
    · obtain ⟨k, hk⟩ : ∃ k, cnt (nat f) i = k := ⟨_, rfl⟩
      obtain ⟨x, hx⟩ : ∃ x, nat f i = x := ⟨_, rfl⟩
      have hxk : x ≤ k := by have h1 := HF.out.2.2 i hlt; omega
      have hki : k ≤ i := hk ▸ cnt_small (nat f) i
      obtain ⟨ov, cv, rfl, hov⟩ := HR.out.shape' (k := k) (by rw [List.length_map, lst_len]; exact hk)
      obtain ⟨bl, ofs, rfl, hbl, hcl⟩ := HL.out (by omega)
      obtain ⟨bg, ofg, rfl, hbg, hcg⟩ := HL'.out (by omega)
      have hcx := (HB.out.cell (p := ⟨bl, ofs + i, none⟩) hbl).trans (hcl i hlt)
      have hcy := (HB.out.cell (p := ⟨bg, ofg + i, none⟩) hbg).trans (hcg i hlt)
      have hfx : f i = ((x : Nat) : Int) := by have h1 := HF.out.2.1 i hlt; rw [← hx]; show f i = ((f i).toNat : Int); omega
      rw [hfx] at hcx
      have hstep : cnt (nat f) (i + 1) = if x = k then k + 1 else k := by rw [← hx, ← hk]; rfl
      have hlst : lst (nat f) (i + 1) = if x = k then lst (nat f) i ++ [i] else lst (nat f) i := by rw [← hx, ← hk]; rfl
      obtain ⟨y, hy⟩ : ∃ y, g i = y := ⟨_, rfl⟩
      rw [hy] at hcy
      have HX := Lib.hid hx
      have HY := Lib.hid hy
      have HKc := Lib.hid hk
      have HOv := Lib.hid hov
      have HCg := Lib.hid hcg
      have hsb := HB.out.size
      clear hx hk hov hcl hcg hfx hy
      have hi1 : (i : Int) < (n : Int) := by omega
      by_cases hxe : x = k
      · rw [if_pos hxe] at hstep hlst
        have HLst := Lib.hid hlst
        subst hxe
        clear hstep hlst
        go_wp2_with (at_builtin; refine app_int _ rfl _ _ rfl w.heap.size _ _ rfl (HR.out.alloc _) wr.heap.size y rfl (World.cell?_alloc_mark _ #[_] 3 (0, 0) 0) (by rw [List.length_map, lst_len, HKc.out]; omega) (by simp; omega) ?_; intro gg cv2 w2 hr2 hbb2 hgg; rw [List.length_map, lst_len, HKc.out] at hr2 ⊢; have HR2 := Lib.hid hr2; have HBB := Lib.hid hbb2; clear hr2 hbb2)
        have hfi : fst (nat f) i = i := by
          have h1 := fst_of HF.out.2.2 hlt
          have h2 := h1.1
          rw [HLst.out, HX.out] at h2
          have h3 : (lst (nat f) i).length = x := by rw [lst_len]; exact HKc.out
          rw [List.getElem?_append_right (by omega), h3] at h2
          simpa using h2.symm
        have HFi := Lib.hid hfi
        have HB2 := Lib.hid ((HB.out.alloc hsb (.cells #[.int .i64 y] 3)).trans HBB.out)
        have hcyy : w2.cell? ⟨bg, ofg + i, none⟩ = some (.int .i64 y) := (HB2.out.cell (p := ⟨bg, ofg + i, none⟩) hbg).trans ((HCg.out i hlt).trans (by rw [HY.out]))
        have hcz : w2.cell? ⟨gg, x, none⟩ = some (.int .i64 y) := HR2.out.cellAt (by rw [List.getElem?_append_right (by simp [lst_len, HKc.out])]; simp [lst_len, HKc.out])
        have hxm : (x : Int) < (x : Int) + 1 := by omega
        have hxm2 : (x : Int) < ((x + 1 : Nat) : Int) := by omega
        clear hfi hcx hcy
        go_quiet (fail)
        go_wp2_with fail
        go_roundw
        case rel =>
          refine ⟨i + 1, by omega, by go_num, ?_, ?_, below_dn _ HB2.out⟩
          · have h1 := HR2.out
            rw [HLst.out, List.map_append]
            rw [← HY.out] at h1
            exact h1
          · intro j hj
            by_cases e : j = i
            · subst e; rw [HFi.out]
            · exact HD.out j (by omega)
        case measure => simp [intOf]; omega
      · rw [if_neg hxe] at hstep hlst
        have HLst := Lib.hid hlst
        have hxk2 : x < k := by omega
        have hb1 : ((x : Int) == (k : Int)) = false := by rw [beq_eq_false_iff_ne]; omega
        have hb2 : (x == k) = false := by simpa using hxe
        obtain ⟨gg, rfl, hgg⟩ := HOv.out x hxk2
        have hfx := (fst_of HF.out.2.2 hlt).1
        rw [HLst.out, HX.out] at hfx
        obtain ⟨z, hz⟩ : ∃ z, g (fst (nat f) i) = z := ⟨_, rfl⟩
        have hcz : wr.cell? ⟨gg, x, none⟩ = some (.int .i64 z) := HR.out.cellAt (by rw [List.getElem?_map, hfx, ← hz]; rfl)
        have HZ := Lib.hid hz
        have hxm : (x : Int) < (k : Int) := by omega
        clear hstep hlst hxe hfx hz
        by_cases hyz : y = z
        · subst hyz
          go_wp2_with fail
          go_quiet (fail)
          go_wp2_with fail
          go_roundw
          case rel =>
            refine ⟨i + 1, by omega, by go_num, ?_, ?_, below_dn _ HB.out⟩
            · rw [HLst.out]
              exact HR.out
            · intro j hj
              by_cases e : j = i
              · subst e; rw [HY.out, HZ.out]
              · exact HD.out j (by omega)
          case measure => simp [intOf]; omega
        · have hne : (z != y) = true := by rw [bne_iff_ne]; exact fun e => hyz e.symm
          have hne2 : (z == y) = false := by rw [beq_eq_false_iff_ne]; exact fun e => hyz e.symm
          have hno := finb_no (g := g) HF.out hlt (by rw [HY.out, HZ.out]; exact hyz)
          have hrf : r = false := HR0.out.symm.trans hno
          clear hyz hno
          subst hrf
          go_wp2_with fail
          go_quiet (fail)
          go_wp2_with fail
          go_ret2
          exact ⟨rfl, below_dn _ HB.out⟩
    · have e : i = n := by omega
      subst e
      have hrt : r = true := HR0.out.symm.trans (finb_yes HF.out HD.out)
      subst hrt
      go_wp2_with fail
      go_ret2
      exact ⟨rfl, HB.out⟩
end Go.Proofs.Ytbkmcibibppjeaa
