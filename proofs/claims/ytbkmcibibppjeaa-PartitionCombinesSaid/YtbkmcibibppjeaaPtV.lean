/- The specification: Labels, Cut. -/
import Derived.Test.YtbkmcibibppjeaaPtU
import Derived.WalkKit
import Derived.WalkSpells
import Derived.WalkLawsBesides
import Derived.Handy
import Derived.Deep.QuietTactic
import Derived.BigQuiet
import Derived.Outline
import Derived.Laws.BitsAllLaws
import Derived.IntWalk
import Derived.Lib.SmallJoins
import Derived.Lib.Hide
import Derived.Deep.DeepCutAuto
import Derived.LoopTactic
import Derived.Deep.RegionWith
namespace Go.Proofs.Ytbkmcibibppjeaa
set_option linter.unusedVariables false
set_option linter.unusedSimpArgs false
open Go.RowKit Part
theorem lsf_snoc (i : Nat) (f : Nat → Int) : lsf i f ++ [f i] = lsf (i + 1) f := by
  unfold lsf
  rw [List.range_succ, List.map_append]
  rfl
theorem mem_ds_ex {K : Type} [DecidableEq K] (κ : Nat → K) : ∀ {i : Nat} {x : K}, x ∈ ds κ i → ∃ k, k < i ∧ κ k = x
  | 0, x, h => by cases h
  | i + 1, x, h => by
    rw [ds_succ] at h
    split at h
    · obtain ⟨k, h1, h2⟩ := mem_ds_ex κ h
      exact ⟨k, by omega, h2⟩
    · rcases List.mem_append.1 h with h | h
      · obtain ⟨k, h1, h2⟩ := mem_ds_ex κ h
        exact ⟨k, by omega, h2⟩
      · exact ⟨i, by omega, (List.mem_singleton.1 h).symm⟩

set_option maxRecDepth 100000 in
set_option maxHeartbeats 4000000 in
theorem rlabels_any (n : Nat) (hn : n ≤ 65536) (f : Nat → Int) (o : Option Addr) (cap : Nat) (w : World) (hL : Lz w o n f) : Calls Try.prog 46 #[.slice o n cap] w (LRes n (labf f) w) := by
  have HL := Lib.hid hL
  clear hL
  obtain ⟨κ, hκ⟩ : ∃ κ, (fun j => (f j, (0 : Int))) = κ := ⟨_, rfl⟩
  have HK := Lib.hid (show κ = (fun j => (f j, (0 : Int))) from hκ.symm)
  have HRes := Lib.hid (show (labf f) = fun i => ((lab κ i : Nat) : Int) by rw [← hκ]; rfl)
  clear hκ
  go_enter Try.func46, Try.ntmps46
  go_wp2_with fail
  go_loopw [3, 4, 5] (fun v m j wr => ∃ i : Nat, i ≤ n ∧ j = .int .i64 (i : Int) ∧ m = .int .i64 (((ds κ i).length : Nat) : Int) ∧ Row wr w.heap.size v (lsf i fun j => ((lab κ j : Nat) : Int)) ∧ Below w.heap.size w wr) (fun _ _ j _ => n - (intOf j).toNat)
  case atStart => exact ⟨0, by omega, rfl, rfl, Row.nil _ _, Below.refl _ _⟩
  case round =>
    obtain ⟨i, hi, rfl, rfl, hR, hB⟩ := hrel
    have HRow := Lib.hid hR
    have HB := Lib.hid hB
    clear hR hB
    by_cases hlt : i < n
    · obtain ⟨bl, ofs, rfl, hbl, hcl⟩ := HL.out (by omega)
      have HC := Lib.hid hcl
      clear hcl
      have hdl : (ds κ i).length ≤ i := by rw [← cnt_lab κ i]; exact cnt_small _ _
      obtain ⟨m, hm⟩ : ∃ m, (ds κ i).length = m := ⟨_, rfl⟩
      rw [hm] at hdl ⊢
      have HM := Lib.hid hm
      clear hm
      have hi1 : (i : Int) < (n : Int) := by omega
      have hlen : (lsf i fun j => ((lab κ j : Nat) : Int)).length = i := by simp [lsf]
      have HLen := Lib.hid hlen
      obtain ⟨ov, cv, rfl, hov⟩ := HRow.out.shape' (k := i) hlen
      clear hlen
      go_wp2_with fail
      go_loopw [6, 7] (fun a j wr' => ∃ k : Nat, k ≤ i ∧ j = .int .i64 (k : Int) ∧ ((a = .int .i64 (-1) ∧ ∀ k', k' < k → κ k' ≠ κ i) ∨ (a = .int .i64 ((lab κ i : Nat) : Int) ∧ κ i ∈ ds κ i)) ∧ Below w.heap.size w wr' ∧ Row wr' w.heap.size (.slice ov i cv) (lsf i fun j => ((lab κ j : Nat) : Int))) (fun _ j _ => i - (intOf j).toNat)
      case atStart => exact ⟨0, by omega, rfl, .inl ⟨rfl, fun k' h => absurd h (by omega)⟩, HB.out, HRow.out⟩
      case round =>
        clear HRow HB
        obtain ⟨k, hk, rfl, hst, hB2, hRow2⟩ := hrel
        have HB2 := Lib.hid hB2
        have HRow2 := Lib.hid hRow2
        clear hB2 hRow2
        by_cases hki : k < i
        · rcases hst with ⟨rfl, hno⟩ | ⟨rfl, hin⟩
          · have HNo0 := Lib.hid hno
            clear hno
            obtain ⟨gg, rfl, hgg⟩ := hov k hki
            have hck0 := HRow2.out.cellAt (j := k) (x := ((lab κ k : Nat) : Int)) (by simp [lsf, hki])
            have hk1 : (k : Int) < (n : Int) := by omega
            have hki' : (k : Int) < (i : Int) := by omega
            by_cases hkk : κ k = κ i
            · have hlk : lab κ k = lab κ i := (lab_eq κ k i).2 hkk
              rw [hlk] at hck0
              have hin : κ i ∈ ds κ i := hkk ▸ mem_ds_of κ hki
              have HIn := Lib.hid hin
              have HKK := Lib.hid hkk
              clear hin hkk hlk
              have c3 := (HB2.out.cell (p := ⟨bl, ofs + k, none⟩) hbl).trans (HC.out k (by omega))
              have c1 := (HB2.out.cell (p := ⟨bl, ofs + i, none⟩) hbl).trans (HC.out i hlt)
              obtain ⟨u, hu⟩ : ∃ u, f i = u := ⟨_, rfl⟩
              obtain ⟨v, hv⟩ : ∃ v, f k = v := ⟨_, rfl⟩
              rw [hu] at c1
              rw [hv] at c3
              have HU := Lib.hid hu
              have HV := Lib.hid hv
              clear hu hv
              have huv : v = u := by
                have h1 := HKK.out
                rw [HK.out] at h1
                simp only [Prod.mk.injEq] at h1
                rw [← HU.out, ← HV.out]
                exact h1.1
              subst huv
              go_wp2_with fail
              go_quiet (fail)
              go_wp2_with fail
              go_roundw
              case rel => exact ⟨k + 1, by omega, by go_num, .inr ⟨rfl, HIn.out⟩, below_dn _ HB2.out, HRow2.out.below (below_dn _ (Below.refl _ _))⟩
              case measure => simp [intOf]; omega
            · have HKN := Lib.hid hkk
              have HNo : Hid (∀ k', k' < k + 1 → κ k' ≠ κ i) := Lib.hid (fun k' hk' e => by
                by_cases e2 : k' = k
                · subst e2; exact HKN.out e
                · exact HNo0.out k' (by omega) e)
              clear hkk
              have c3 := (HB2.out.cell (p := ⟨bl, ofs + k, none⟩) hbl).trans (HC.out k (by omega))
              have c1 := (HB2.out.cell (p := ⟨bl, ofs + i, none⟩) hbl).trans (HC.out i hlt)
              obtain ⟨u, hu⟩ : ∃ u, f i = u := ⟨_, rfl⟩
              obtain ⟨v, hv⟩ : ∃ v, f k = v := ⟨_, rfl⟩
              rw [hu] at c1
              rw [hv] at c3
              have HU := Lib.hid hu
              have HV := Lib.hid hv
              clear hu hv
              have huv : v ≠ u := by
                intro e
                refine HKN.out ?_
                rw [HK.out]
                simp only
                rw [HU.out, HV.out, e]
              have hne : (v == u) = false := by rw [beq_eq_false_iff_ne]; exact huv
              clear huv
              go_wp2_with fail
              go_quiet (fail)
              go_wp2_with fail
              go_roundw
              case rel => exact ⟨k + 1, by omega, by go_num, .inl ⟨rfl, HNo.out⟩, below_dn _ HB2.out, HRow2.out.below (below_dn _ (Below.refl _ _))⟩
              case measure => simp [intOf]; omega
          · have hki' : (k : Int) < (i : Int) := by omega
            obtain ⟨L, hL⟩ : ∃ L, lab κ i = L := ⟨_, rfl⟩
            rw [hL]
            have HLL := Lib.hid hL
            have HIn := Lib.hid hin
            have hds : (ds κ (i + 1)).length = m := by rw [ds_succ, if_pos hin]; exact HM.out
            have HDS := Lib.hid hds
            have hL0 : ¬ ((L : Nat) : Int) < 0 := by omega
            have hL1 : (0 : Int) ≤ ((L : Nat) : Int) := by omega
            clear hL hin hds
            go_wp2_with (at_builtin; refine app_int _ rfl _ _ rfl w.heap.size _ _ rfl (HRow2.out.alloc _) wr.heap.size (L : Int) rfl (World.cell?_alloc_mark _ #[_] 3 (0, 0) 0) (by rw [HLen.out]; omega) (by have := HB2.out.size; simp; omega) ?_; intro gg cv2 w2 hr2 hbb2 hgg; rw [HLen.out] at hr2 ⊢; have HR2 := Lib.hid hr2; have HBB := Lib.hid hbb2; clear hr2 hbb2)
            go_roundw
            case rel => exact ⟨i + 1, by omega, by go_num, by rw [HDS.out], lsf_snoc i _ ▸ by have h := HR2.out; rw [← HLL.out] at h; exact h, (HB2.out.alloc HB2.out.size _).trans HBB.out⟩
            case measure => simp [intOf]; omega
        · have hki' : ¬ (k : Int) < (i : Int) := by omega
          have e : k = i := by omega
          subst e
          clear hki
          rcases hst with ⟨rfl, hno⟩ | ⟨rfl, hin⟩
          · skip
            have hnin : κ k ∉ ds κ k := fun h => by obtain ⟨k', h1, h2⟩ := mem_ds_ex κ h; exact hno k' h1 h2
            have hds : (ds κ (k + 1)).length = m + 1 := by rw [ds_succ, if_neg hnin, List.length_append, HM.out]; rfl
            have hlm : lab κ k = m := (lab_new κ hnin).trans HM.out
            have HDS := Lib.hid hds
            have HLL := Lib.hid hlm
            clear hnin hds hlm hno
            go_wp2_with (at_builtin; refine app_int _ rfl _ _ rfl w.heap.size _ _ rfl (HRow2.out.alloc _) wr.heap.size (m : Int) rfl (World.cell?_alloc_mark _ #[_] 3 (0, 0) 0) (by rw [HLen.out]; omega) (by have := HB2.out.size; simp; omega) ?_; intro gg cv2 w2 hr2 hbb2 hgg; rw [HLen.out] at hr2 ⊢; have HR2 := Lib.hid hr2; have HBB := Lib.hid hbb2; clear hr2 hbb2)
            go_roundw
            case rel => exact ⟨k + 1, by omega, by go_num, by rw [HDS.out]; go_num, lsf_snoc k _ ▸ by have h := HR2.out; rw [← HLL.out] at h; exact h, (HB2.out.alloc HB2.out.size _).trans HBB.out⟩
            case measure => simp [intOf]; omega
          · skip
            obtain ⟨L, hL⟩ : ∃ L, lab κ k = L := ⟨_, rfl⟩
            rw [hL]
            have HLL := Lib.hid hL
            have HIn := Lib.hid hin
            have hds : (ds κ (k + 1)).length = m := by rw [ds_succ, if_pos hin]; exact HM.out
            have HDS := Lib.hid hds
            have hL0 : ¬ ((L : Nat) : Int) < 0 := by omega
            have hL1 : (0 : Int) ≤ ((L : Nat) : Int) := by omega
            clear hL hin hds
            go_wp2_with (at_builtin; refine app_int _ rfl _ _ rfl w.heap.size _ _ rfl (HRow2.out.alloc _) wr.heap.size (L : Int) rfl (World.cell?_alloc_mark _ #[_] 3 (0, 0) 0) (by rw [HLen.out]; omega) (by have := HB2.out.size; simp; omega) ?_; intro gg cv2 w2 hr2 hbb2 hgg; rw [HLen.out] at hr2 ⊢; have HR2 := Lib.hid hr2; have HBB := Lib.hid hbb2; clear hr2 hbb2)
            go_roundw
            case rel => exact ⟨k + 1, by omega, by go_num, by rw [HDS.out], lsf_snoc k _ ▸ by have h := HR2.out; rw [← HLL.out] at h; exact h, (HB2.out.alloc HB2.out.size _).trans HBB.out⟩
            case measure => simp [intOf]; omega
    · have e : i = n := by omega
      subst e
      obtain ⟨ov, cv, rfl, hz⟩ := HRow.out.shape
      have hlen : (lsf i fun j => ((lab κ j : Nat) : Int)).length = i := by simp [lsf]
      rw [hlen] at hz ⊢
      have HZ := Lib.hid hz
      clear hz hlen hlt
      go_wp2_with fail
      go_ret
      rw [HRes.out]
      exact ⟨_, _, rfl, HZ.out.congr (fun j hj => by simp [lsf, hj]), HB.out⟩

set_option maxRecDepth 100000 in
set_option maxHeartbeats 4000000 in
theorem cut_any (n : Nat) (hn : n ≤ 65536) (f g : Nat → Int) (o p : Option Addr) (cap cap' : Nat) (w : World) (hL : Lz w o n f) (hL' : Lz w p n g) : Calls Try.prog 51 #[.slice o n cap, .slice p n cap'] w (LRes n (meetf f g) w) := by
  have HL := Lib.hid hL
  have HL' := Lib.hid hL'
  clear hL hL'
  obtain ⟨κ, hκ⟩ : ∃ κ, (fun j => (f j, g j)) = κ := ⟨_, rfl⟩
  have HK := Lib.hid (show κ = (fun j => (f j, g j)) from hκ.symm)
  have HRes := Lib.hid (show (meetf f g) = fun i => ((lab κ i : Nat) : Int) by rw [← hκ]; rfl)
  clear hκ
  go_enter Try.func51, Try.ntmps51
  go_wp2_with fail
  go_loopw [5, 6, 7] (fun v m j wr => ∃ i : Nat, i ≤ n ∧ j = .int .i64 (i : Int) ∧ m = .int .i64 (((ds κ i).length : Nat) : Int) ∧ Row wr w.heap.size v (lsf i fun j => ((lab κ j : Nat) : Int)) ∧ Below w.heap.size w wr) (fun _ _ j _ => n - (intOf j).toNat)
  case atStart => exact ⟨0, by omega, rfl, rfl, Row.nil _ _, Below.refl _ _⟩
  case round =>
    obtain ⟨i, hi, rfl, rfl, hR, hB⟩ := hrel
    have HRow := Lib.hid hR
    have HB := Lib.hid hB
    clear hR hB
    by_cases hlt : i < n
    · obtain ⟨bl, ofs, rfl, hbl, hcl⟩ := HL.out (by omega)
      obtain ⟨bg, ofg, rfl, hbg, hcg⟩ := HL'.out (by omega)
      have HC := Lib.hid hcl
      have HG := Lib.hid hcg
      clear hcl hcg
      have hdl : (ds κ i).length ≤ i := by rw [← cnt_lab κ i]; exact cnt_small _ _
      obtain ⟨m, hm⟩ : ∃ m, (ds κ i).length = m := ⟨_, rfl⟩
      rw [hm] at hdl ⊢
      have HM := Lib.hid hm
      clear hm
      have hi1 : (i : Int) < (n : Int) := by omega
      have hlen : (lsf i fun j => ((lab κ j : Nat) : Int)).length = i := by simp [lsf]
      have HLen := Lib.hid hlen
      obtain ⟨ov, cv, rfl, hov⟩ := HRow.out.shape' (k := i) hlen
      clear hlen
      go_wp2_with fail
      go_loopw [8, 9] (fun a j wr' => ∃ k : Nat, k ≤ i ∧ j = .int .i64 (k : Int) ∧ ((a = .int .i64 (-1) ∧ ∀ k', k' < k → κ k' ≠ κ i) ∨ (a = .int .i64 ((lab κ i : Nat) : Int) ∧ κ i ∈ ds κ i)) ∧ Below w.heap.size w wr' ∧ Row wr' w.heap.size (.slice ov i cv) (lsf i fun j => ((lab κ j : Nat) : Int))) (fun _ j _ => i - (intOf j).toNat)
      case atStart => exact ⟨0, by omega, rfl, .inl ⟨rfl, fun k' h => absurd h (by omega)⟩, HB.out, HRow.out⟩
      case round =>
        clear HRow HB
        obtain ⟨k, hk, rfl, hst, hB2, hRow2⟩ := hrel
        have HB2 := Lib.hid hB2
        have HRow2 := Lib.hid hRow2
        clear hB2 hRow2
        by_cases hki : k < i
        · rcases hst with ⟨rfl, hno⟩ | ⟨rfl, hin⟩
          · have HNo0 := Lib.hid hno
            clear hno
            obtain ⟨gg, rfl, hgg⟩ := hov k hki
            have hck0 := HRow2.out.cellAt (j := k) (x := ((lab κ k : Nat) : Int)) (by simp [lsf, hki])
            have hk1 : (k : Int) < (n : Int) := by omega
            have hki' : (k : Int) < (i : Int) := by omega
            by_cases hkk : κ k = κ i
            · have hlk : lab κ k = lab κ i := (lab_eq κ k i).2 hkk
              rw [hlk] at hck0
              have hin : κ i ∈ ds κ i := hkk ▸ mem_ds_of κ hki
              have HIn := Lib.hid hin
              have HKK := Lib.hid hkk
              clear hin hkk hlk
              have c3 := (HB2.out.cell (p := ⟨bl, ofs + k, none⟩) hbl).trans (HC.out k (by omega))
              have c1 := (HB2.out.cell (p := ⟨bl, ofs + i, none⟩) hbl).trans (HC.out i hlt)
              obtain ⟨u, hu⟩ : ∃ u, f i = u := ⟨_, rfl⟩
              obtain ⟨v, hv⟩ : ∃ v, f k = v := ⟨_, rfl⟩
              rw [hu] at c1
              rw [hv] at c3
              have HU := Lib.hid hu
              have HV := Lib.hid hv
              clear hu hv
              have c4 := (HB2.out.cell (p := ⟨bg, ofg + k, none⟩) hbg).trans (HG.out k (by omega))
              have c2 := (HB2.out.cell (p := ⟨bg, ofg + i, none⟩) hbg).trans (HG.out i hlt)
              obtain ⟨x, hx⟩ : ∃ x, g i = x := ⟨_, rfl⟩
              obtain ⟨y, hy⟩ : ∃ y, g k = y := ⟨_, rfl⟩
              rw [hx] at c2
              rw [hy] at c4
              have HX := Lib.hid hx
              have HY := Lib.hid hy
              clear hx hy
              have huv : v = u ∧ y = x := by
                have h1 := HKK.out
                rw [HK.out] at h1
                simp only [Prod.mk.injEq] at h1
                exact ⟨by rw [← HU.out, ← HV.out]; exact h1.1, by rw [← HX.out, ← HY.out]; exact h1.2⟩
              obtain ⟨rfl, rfl⟩ := huv
              go_wp2_with fail
              go_quiet (fail)
              go_wp2_with fail
              go_roundw
              case rel => exact ⟨k + 1, by omega, by go_num, .inr ⟨rfl, HIn.out⟩, below_dn _ HB2.out, HRow2.out.below (below_dn _ (Below.refl _ _))⟩
              case measure => simp [intOf]; omega
            · have HKN := Lib.hid hkk
              have HNo : Hid (∀ k', k' < k + 1 → κ k' ≠ κ i) := Lib.hid (fun k' hk' e => by
                by_cases e2 : k' = k
                · subst e2; exact HKN.out e
                · exact HNo0.out k' (by omega) e)
              clear hkk
              have c3 := (HB2.out.cell (p := ⟨bl, ofs + k, none⟩) hbl).trans (HC.out k (by omega))
              have c1 := (HB2.out.cell (p := ⟨bl, ofs + i, none⟩) hbl).trans (HC.out i hlt)
              obtain ⟨u, hu⟩ : ∃ u, f i = u := ⟨_, rfl⟩
              obtain ⟨v, hv⟩ : ∃ v, f k = v := ⟨_, rfl⟩
              rw [hu] at c1
              rw [hv] at c3
              have HU := Lib.hid hu
              have HV := Lib.hid hv
              clear hu hv
              have c4 := (HB2.out.cell (p := ⟨bg, ofg + k, none⟩) hbg).trans (HG.out k (by omega))
              have c2 := (HB2.out.cell (p := ⟨bg, ofg + i, none⟩) hbg).trans (HG.out i hlt)
              obtain ⟨x, hx⟩ : ∃ x, g i = x := ⟨_, rfl⟩
              obtain ⟨y, hy⟩ : ∃ y, g k = y := ⟨_, rfl⟩
              rw [hx] at c2
              rw [hy] at c4
              have HX := Lib.hid hx
              have HY := Lib.hid hy
              clear hx hy
              by_cases huv : v = u
              · have hxy : y ≠ x := by
                  intro e
                  refine HKN.out ?_
                  rw [HK.out]
                  simp only
                  rw [HU.out, HV.out, HX.out, HY.out, huv, e]
                subst huv
                have hne : (y == x) = false := by rw [beq_eq_false_iff_ne]; exact hxy
                clear hxy
                go_wp2_with fail
                go_quiet (fail)
                go_wp2_with fail
                go_roundw
                case rel => exact ⟨k + 1, by omega, by go_num, .inl ⟨rfl, HNo.out⟩, below_dn _ HB2.out, HRow2.out.below (below_dn _ (Below.refl _ _))⟩
                case measure => simp [intOf]; omega
              · have hne : (v == u) = false := by rw [beq_eq_false_iff_ne]; exact huv
                clear huv
                go_wp2_with fail
                go_quiet (fail)
                go_wp2_with fail
                go_roundw
                case rel => exact ⟨k + 1, by omega, by go_num, .inl ⟨rfl, HNo.out⟩, below_dn _ HB2.out, HRow2.out.below (below_dn _ (Below.refl _ _))⟩
                case measure => simp [intOf]; omega
          · have hki' : (k : Int) < (i : Int) := by omega
            obtain ⟨L, hL⟩ : ∃ L, lab κ i = L := ⟨_, rfl⟩
            rw [hL]
            have HLL := Lib.hid hL
            have HIn := Lib.hid hin
            have hds : (ds κ (i + 1)).length = m := by rw [ds_succ, if_pos hin]; exact HM.out
            have HDS := Lib.hid hds
            have hL0 : ¬ ((L : Nat) : Int) < 0 := by omega
            have hL1 : (0 : Int) ≤ ((L : Nat) : Int) := by omega
            clear hL hin hds
            go_wp2_with (at_builtin; refine app_int _ rfl _ _ rfl w.heap.size _ _ rfl (HRow2.out.alloc _) wr.heap.size (L : Int) rfl (World.cell?_alloc_mark _ #[_] 3 (0, 0) 0) (by rw [HLen.out]; omega) (by have := HB2.out.size; simp; omega) ?_; intro gg cv2 w2 hr2 hbb2 hgg; rw [HLen.out] at hr2 ⊢; have HR2 := Lib.hid hr2; have HBB := Lib.hid hbb2; clear hr2 hbb2)
            go_roundw
            case rel => exact ⟨i + 1, by omega, by go_num, by rw [HDS.out], lsf_snoc i _ ▸ by have h := HR2.out; rw [← HLL.out] at h; exact h, (HB2.out.alloc HB2.out.size _).trans HBB.out⟩
            case measure => simp [intOf]; omega
        · have hki' : ¬ (k : Int) < (i : Int) := by omega
          have e : k = i := by omega
          subst e
          clear hki
          rcases hst with ⟨rfl, hno⟩ | ⟨rfl, hin⟩
          · skip
            have hnin : κ k ∉ ds κ k := fun h => by obtain ⟨k', h1, h2⟩ := mem_ds_ex κ h; exact hno k' h1 h2
            have hds : (ds κ (k + 1)).length = m + 1 := by rw [ds_succ, if_neg hnin, List.length_append, HM.out]; rfl
            have hlm : lab κ k = m := (lab_new κ hnin).trans HM.out
            have HDS := Lib.hid hds
            have HLL := Lib.hid hlm
            clear hnin hds hlm hno
            go_wp2_with (at_builtin; refine app_int _ rfl _ _ rfl w.heap.size _ _ rfl (HRow2.out.alloc _) wr.heap.size (m : Int) rfl (World.cell?_alloc_mark _ #[_] 3 (0, 0) 0) (by rw [HLen.out]; omega) (by have := HB2.out.size; simp; omega) ?_; intro gg cv2 w2 hr2 hbb2 hgg; rw [HLen.out] at hr2 ⊢; have HR2 := Lib.hid hr2; have HBB := Lib.hid hbb2; clear hr2 hbb2)
            go_roundw
            case rel => exact ⟨k + 1, by omega, by go_num, by rw [HDS.out]; go_num, lsf_snoc k _ ▸ by have h := HR2.out; rw [← HLL.out] at h; exact h, (HB2.out.alloc HB2.out.size _).trans HBB.out⟩
            case measure => simp [intOf]; omega
          · skip
            obtain ⟨L, hL⟩ : ∃ L, lab κ k = L := ⟨_, rfl⟩
            rw [hL]
            have HLL := Lib.hid hL
            have HIn := Lib.hid hin
            have hds : (ds κ (k + 1)).length = m := by rw [ds_succ, if_pos hin]; exact HM.out
            have HDS := Lib.hid hds
            have hL0 : ¬ ((L : Nat) : Int) < 0 := by omega
            have hL1 : (0 : Int) ≤ ((L : Nat) : Int) := by omega
            clear hL hin hds
            go_wp2_with (at_builtin; refine app_int _ rfl _ _ rfl w.heap.size _ _ rfl (HRow2.out.alloc _) wr.heap.size (L : Int) rfl (World.cell?_alloc_mark _ #[_] 3 (0, 0) 0) (by rw [HLen.out]; omega) (by have := HB2.out.size; simp; omega) ?_; intro gg cv2 w2 hr2 hbb2 hgg; rw [HLen.out] at hr2 ⊢; have HR2 := Lib.hid hr2; have HBB := Lib.hid hbb2; clear hr2 hbb2)
            go_roundw
            case rel => exact ⟨k + 1, by omega, by go_num, by rw [HDS.out], lsf_snoc k _ ▸ by have h := HR2.out; rw [← HLL.out] at h; exact h, (HB2.out.alloc HB2.out.size _).trans HBB.out⟩
            case measure => simp [intOf]; omega
    · have e : i = n := by omega
      subst e
      obtain ⟨ov, cv, rfl, hz⟩ := HRow.out.shape
      have hlen : (lsf i fun j => ((lab κ j : Nat) : Int)).length = i := by simp [lsf]
      rw [hlen] at hz ⊢
      have HZ := Lib.hid hz
      clear hz hlen hlt
      go_wp2_with fail
      go_ret
      rw [HRes.out]
      exact ⟨_, _, rfl, HZ.out.congr (fun j hj => by simp [lsf, hj]), HB.out⟩

end Go.Proofs.Ytbkmcibibppjeaa
