/- The law ProcsetCounts. -/
import Derived.Test.YtienbebbgioccaaDoorPsS
import Derived.Test.YtienbebbgioccaaDoorShelC
import Derived.Sort.OwnSortedInts
import Derived.WalkKit
import Derived.WalkSpells
import Derived.WalkLawsBesides
import Derived.Handy
import Derived.Deep.QuietTactic
import Derived.BigQuiet
import Derived.Outline
import Derived.Laws.BitsAllLaws
import Derived.IntWalk
import Derived.Lib.SmallJoins
import Derived.Lib.Hide
import Derived.Deep.DeepCutAuto
import Derived.LoopTactic
import Derived.Deep.RegionWith
namespace Go.Proofs.YtienbebbgioccaaDoor
set_option linter.unusedVariables false
set_option linter.unusedSimpArgs false
open Go.RowKit

theorem sort_own (l m : List Nat) (h1 : 1 ≤ l.length) (hlen : m.length = l.length) (hll : l.length ≤ 1000000) (hsort : (zl l).mergeSort (fun x y => decide (x ≤ y)) = zl m) (B : Nat) (v : Value) (W : World) (hBW : B ≤ W.heap.size) (h : W.ownsRow B 3 1 v l.length (cellsI l)) :
    Calls Tryd.prog 34 #[v] W fun e w' => e = .returned (.tuple #[]) ∧ Below B W w' ∧ LiesI w' v m := by
  rw [cells_zl] at h
  rcases h.2 with ⟨_, h0⟩ | ⟨g, cap, cur, rfl, hB, hb, hn, hm, hs, ht⟩
  · omega
  · have ht2 : cur.toList.take (zl l).length = (zl l).map (Value.int .i64) := by rw [zl_len]; rw [Nat.mul_one] at ht; exact ht
    have hr := Tryd.slices_Sort_int g 0 cap (zl l) W (holds_of_blockI hb ht2) (Array.getElem?_eq_some_iff.1 hb).1 (by rw [zl_len]; omega)
    rw [zl_len, hsort] at hr
    refine hr.mono ?_
    rintro e w' ⟨rfl, q, os, rfl⟩
    refine ⟨rfl, (Below.refl B W).grown (grownBy_sortedI (zl m).toArray) hBW (fun k hk => by injection hk with hk; rw [← hk]; exact hB), ?_⟩
    have h2 := ownsRow_sortedI (n := q) (os := os) (ss := zl l) (ts := zl m) (by rw [zl_len, zl_len, hlen]) hB hb (by rw [zl_len]; exact hn) hm hs
    rw [zl_len, ← hlen, ← cells_zl] at h2
    rw [← hlen]
    exact LiesI.of h2
/-- The choices of k elements. -/
def chn (S k : Nat) : List Nat := cho S (k : Int)
theorem lies_some {w : World} {v : Value} {l : List Nat} (h : LiesI w v l) (h1 : 1 ≤ l.length) : ∃ g cap, v = .slice (some ⟨g, 0, none⟩) l.length cap ∧ g < w.heap.size ∧ ∀ V i, Below w.heap.size w V → (h : i < l.length) → V.cell? ⟨g, i, none⟩ = some (.int .i64 (l[i] : Int)) := by
  rcases h.form with ⟨_, h0⟩ | ⟨g, cap, h2, h3, _, h4⟩
  · omega
  · exact ⟨g, cap, h2, h3, h4⟩

set_option maxRecDepth 100000 in
set_option maxHeartbeats 40000000 in
theorem counts_ok (n s : Int) (w : World) (hg : Good w) : Calls Tryd.prog 8 #[.int .i64 n, .int .i64 s] w fun e w' => e = .returned (.bool true) ∧ Below w.heap.size w w' := by
  rcases pbad n s with ⟨c, h0, h1, _⟩ | ⟨N, S, rfl, rfl, h⟩
  · have H1 := Lib.hid h1
    have HG := Lib.hid hg
    have hb : (c != 0) = true := by simpa using h0
    clear h1 hg h0
    go_enter Tryd.func8, Tryd.ntmps8
    go_wp2_with fail
    refine (H1.out _).mono ?_
    rintro e w' ⟨rfl, rfl⟩
    go_wp2_with fail
    refine (awake_good _ HG.out).mono ?_
    rintro e W10 ⟨rfl, hB⟩
    have B10 : Hid (Below w.heap.size w W10) := Lib.hid hB
    clear hB
    go_wp2_with fail
    go_ret
    exact ⟨rfl, B10.out⟩
  · have hs := h.lt
    have HC := Lib.hid (fun w => pchk_ok N S h w)
    have HU := Lib.hid (fun w => subsets_okn N S h w)
    have HZ := Lib.hid (fun w => size_okn N S h w)
    have HSz : Hid (∀ (x k : Nat) (W : World), x ≤ S → (num x : Int) = (k : Int) → Calls Tryd.prog 13 #[.int .i64 (N : Int), .int .i64 (x : Int)] W fun e w' => e = .returned (.tuple #[.int .i64 (k : Int), .int .i64 0]) ∧ W = w') := Lib.hid (fun x k W hx hk => by
      rw [← hk]
      exact size_okn N x ⟨h.1, h.2.1, Nat.lt_of_le_of_lt hx h.2.2⟩ W)
    have HCh : Hid (∀ (k : Nat) W, k ≤ num S → Calls Tryd.prog 26 #[.int .i64 (N : Int), .int .i64 (S : Int), .int .i64 (k : Int)] W (LRes (chn S k) 0 W.heap.size W)) := Lib.hid (fun k W hk => choose_okn N S h (k : Int) (by omega) W)
    have HG := Lib.hid hg
    have hlen := subF_len ⟨S, hs⟩
    simp only at hlen
    have hu5 := num_le S
    have hpw : 1 ≤ 2 ^ num S ∧ 2 ^ num S ≤ 32 := ⟨Nat.pow_pos (by omega), Nat.pow_le_pow_right (n := 2) (by omega) (show num S ≤ 5 by omega)⟩
    have HA : Hid (∀ i, (hi : i < (sub S 0).length) → bits .andNot .i64 ((sub S 0)[i] : Int) (S : Int) = 0) := Lib.hid (fun i hi => by
      have h2 := sub_good (List.getElem_mem hi)
      exact andnF ⟨S, hs⟩ ⟨(sub S 0)[i], by omega⟩ h2.1)
    have HAsc : Hid (∀ k, (hk : k + 1 < (sub S 0).length) → (sub S 0)[k]'(Nat.lt_of_succ_lt hk) < (sub S 0)[k + 1]) := Lib.hid (fun k hk => subF_asc ⟨S, hs⟩ ⟨k, by omega⟩ hk)
    have HCe : Hid (∀ (k i : Nat), (hi : i < (chn S k).length) → (num ((chn S k)[i]) : Int) = (k : Int) ∧ (chn S k)[i] ≤ S) := Lib.hid (fun k i hi => cho_good (List.getElem_mem hi))
    have HCp : Hid (∀ k, k ≤ num S → 1 ≤ (chn S k).length ∧ (chn S k).length ≤ 32) := Lib.hid (fun k hk => ⟨choF_pos ⟨S, hs⟩ ⟨k, by omega⟩ hk, cho_len S hs _⟩)
    have HPl : Hid (∀ k, k < 7 → (pre S k).length ≤ 200) := Lib.hid (fun k hk => preF ⟨S, hs⟩ ⟨k, hk⟩)
    have HPn : Hid (∀ k, pre S (k + 1) = pre S k ++ chn S k) := Lib.hid (fun k => rfl)
    have hpl : (pre S (num S + 1)).length = (sub S 0).length := by
      have h2 := (List.isPerm_iff.1 (permF ⟨S, hs⟩)).length_eq
      rw [zl_len, zl_len] at h2
      exact h2
    have HSo : Hid (∀ B v W, B ≤ W.heap.size → W.ownsRow B 3 1 v (pre S (num S + 1)).length (cellsI (pre S (num S + 1))) → Calls Tryd.prog 34 #[v] W fun e w' => e = .returned (.tuple #[]) ∧ Below B W w' ∧ LiesI w' v (sub S 0)) := Lib.hid (fun B v W hBW hv => sort_own _ _ (by omega) hpl.symm (by omega) (sort_pre S hs) B v W hBW hv)
    have HEq : Hid (∀ u v W, LiesI W u (sub S 0) → LiesI W v (sub S 0) → Calls Tryd.prog 35 #[u, v] W fun e w' => e = .returned (.bool true) ∧ Below W.heap.size W w') := Lib.hid (fun u v W hu hv => equal_ok _ (by omega) u v W hu hv)
    obtain ⟨i0, hi, hz0, hz1, hz2⟩ := info_parts infoI
    have HP0 : Hid (pre S 0 = []) := Lib.hid rfl
    clear hpl h hg hs
    obtain ⟨l, hl⟩ : ∃ l, sub S 0 = l := ⟨_, rfl⟩
    rw [hl] at HU hlen HA HAsc HSo HEq
    obtain ⟨u, hu⟩ : ∃ u, num S = u := ⟨_, rfl⟩
    rw [hu] at HZ HCh hlen hu5 hpw HCp HSo
    obtain ⟨C, hC⟩ : ∃ C, chn S = C := ⟨_, rfl⟩
    rw [hC] at HCh HCe HCp HPn
    obtain ⟨pr, hpr⟩ : ∃ pr, pre S = pr := ⟨_, rfl⟩
    rw [hpr] at HPl HPn HSo HP0
    clear hl hu hC hpr
    have hll : 1 ≤ l.length ∧ l.length ≤ 32 := by omega
    have hsh : ((l.length : Int) != wrap64 ((2 : Int) ^ u)) = false := by
      have e : ((2 : Int) ^ u) = ((2 ^ u : Nat) : Int) := by simp
      rw [e, IntWalk.wrap64_in _ (by omega), ← hlen]
      simp
    have hu5i : (u : Int) ≤ 5 := by omega
    clear hlen hpw
    go_enter Tryd.func8, Tryd.ntmps8
    go_wp2_with fail
    refine (HC.out _).mono ?_
    rintro e w' ⟨rfl, rfl⟩
    go_wp2_with fail
    refine (HU.out _).mono ?_
    rintro e W1 ⟨v, rfl, hB, hL⟩
    have B1 : Hid (Below w.heap.size w W1) := Lib.hid hB
    have L1 := Lib.hid hL
    obtain ⟨g, cap, rfl, hgl, hcell⟩ := lies_some hL hll.1
    have HX := Lib.hid (fun i h => hcell W1 i (Below.refl _ _) h)
    clear hB hL HC HU hcell
    go_wp2_with fail
    refine (HZ.out _).mono ?_
    rintro e w' ⟨rfl, rfl⟩
    clear HZ
    go_wp2_with fail
    clear hsh
    go_loop [59] (fun j => ∃ i : Nat, i ≤ l.length ∧ j = .int .i64 (i : Int)) (fun j => l.length - (intOf j).toNat)
    case atStart => exact ⟨0, by omega, rfl⟩
    case round =>
      obtain ⟨i, hile, rfl⟩ := hrel
      by_cases hlt : i < l.length
      · have hc := HX.out i hlt
        have hand := HA.out i hlt
        by_cases hi0 : i = 0
        · subst hi0
          obtain ⟨x, hx⟩ : ∃ x, l[0] = x := ⟨_, rfl⟩
          rw [hx] at hc hand
          clear hx
          go_wp2_with fail
          go_round
          case rel => exact ⟨1, by omega, by first | rfl | go_num⟩
          case measure => simp [intOf] <;> omega
        · obtain ⟨k, rfl⟩ : ∃ k, i = k + 1 := ⟨i - 1, by omega⟩
          have hk1 : ((k + 1 : Nat) : Int) - 1 = (k : Int) := by omega
          have hd := HX.out k (by omega)
          have hasc := HAsc.out k hlt
          obtain ⟨x, hx⟩ : ∃ x, l[k + 1] = x := ⟨_, rfl⟩
          obtain ⟨y, hy⟩ : ∃ y, l[k]'(Nat.lt_of_succ_lt hlt) = y := ⟨_, rfl⟩
          rw [hx] at hc hand hasc
          rw [hy] at hd hasc
          have hyx : (y : Int) < (x : Int) := by omega
          clear hx hy hasc
          go_wp2_with fail
          go_round
          case rel => exact ⟨k + 1 + 1, by omega, by first | rfl | go_num⟩
          case measure => simp [intOf] <;> omega
      · have hil : i = l.length := by omega
        subst hil
        obtain ⟨R0, hR0⟩ : ∃ R, W1.heap.size = R := ⟨_, rfl⟩
        have HR := Lib.hid hR0
        clear hR0 HA HAsc HX
        go_wp2_with fail
        go_loopw [11, 84] (fun v j wr => ∃ k : Nat, k ≤ u + 1 ∧ j = .int .i64 (k : Int) ∧ Below R0 W1 wr ∧ wr.ownsRow R0 3 1 v (pr k).length (cellsI (pr k))) (fun _ j _ => u + 1 - (intOf j).toNat)
        case atStart => exact ⟨0, by omega, rfl, Below.refl _ _, by rw [HP0.out]; exact World.ownsRow_nil _ _ _ _⟩
        case round =>
          obtain ⟨k, hk, rfl, hB, hO⟩ := hrel
          have HB := Lib.hid hB
          have HO := Lib.hid hO
          clear hB hO
          by_cases hku : k < u + 1
          · have hki : (k : Int) < (u : Int) + 1 := by omega
            have hpk := HPl.out k (by omega)
            obtain ⟨hc1, hc2⟩ := HCp.out k (by omega)
            have HE := Lib.hid (fun i hi => HCe.out k i hi)
            have HCk := Lib.hid (fun W => HCh.out k W (by omega))
            have hpn := HPn.out k
            have HSk : Hid (∀ (x : Nat) (W : World), x ≤ S → (num x : Int) = (k : Int) → Calls Tryd.prog 13 #[.int .i64 (N : Int), .int .i64 (x : Int)] W fun e w' => e = .returned (.tuple #[.int .i64 (k : Int), .int .i64 0]) ∧ W = w') := Lib.hid (fun x W h1 h2 => HSz.out x k W h1 h2)
            obtain ⟨p, hp⟩ : ∃ p, pr k = p := ⟨_, rfl⟩
            obtain ⟨c, hcc⟩ : ∃ c, C k = c := ⟨_, rfl⟩
            rw [hp] at HO hpk hpn
            rw [hcc] at hc1 hc2 HE HCk hpn
            have Hpn := Lib.hid hpn
            clear hp hcc hpn
            go_wp2_with fail
            refine (HCk.out _).mono ?_
            rintro e W2 ⟨v2, rfl, hB2, hL2⟩
            obtain ⟨g2, cap2, rfl, hg2, hcell2⟩ := lies_some hL2 hc1
            have HX2 := Lib.hid (fun i h => hcell2 W2 i (Below.refl _ _) h)
            have HB2 : Hid (Below R0 W1 W2) := Lib.hid (HB.out.trans (Joins.below_le hB2 (by have h1 := HB.out.size; have h2 := HR.out; omega)))
            have HO2 := Lib.hid (own_below HO.out hB2)
            have hsz2 : R0 ≤ W2.heap.size := by have h1 := HB2.out.size; have h2 := HR.out; omega
            clear hB2 hL2 hcell2 HB HO HCk
            go_wp2_with fail
            go_loop [98] (fun j => ∃ i : Nat, i ≤ c.length ∧ j = .int .i64 (i : Int)) (fun j => c.length - (intOf j).toNat)
            case atStart => exact ⟨0, by omega, rfl⟩
            case round =>
              obtain ⟨i, hile, rfl⟩ := hrel
              by_cases hlt : i < c.length
              · have hc := HX2.out i hlt
                obtain ⟨hn1, hn2⟩ := HE.out i hlt
                obtain ⟨x, hx⟩ : ∃ x, c[i] = x := ⟨_, rfl⟩
                rw [hx] at hc hn1 hn2
                have HSx := Lib.hid (HSk.out x W2 hn2 hn1)
                clear hx hn1 hn2
                go_wp2_with fail
                refine HSx.out.mono ?_
                rintro e w' ⟨rfl, rfl⟩
                go_wp2_with fail
                go_round
                case rel => exact ⟨i + 1, by omega, by first | rfl | go_num⟩
                case measure => simp [intOf] <;> omega
              · have hil : i = c.length := by omega
                subst hil
                have Hn : Hid (∀ j x, (cellsI c)[j]? = some x → W2.cell? ((⟨g2, 0, none⟩ : Addr).add j) = some x) := Lib.hid (fun j x hj => by
                  have hjl : j < c.length := by
                    have := (List.getElem?_eq_some_iff.1 hj).1
                    simpa [cellsI] using this
                  have ha : (⟨g2, 0, none⟩ : Addr).add j = ⟨g2, j, none⟩ := by unfold Addr.add; by_cases h : j = 0 <;> simp [h]
                  rw [ha, HX2.out j hjl, ← hj]
                  unfold cellsI
                  rw [List.getElem?_map, List.getElem?_eq_getElem hjl]; rfl)
                clear HX2 HE HSk
                go_wp2_with (at_builtin; refine wpList_append_own _ rfl _ _ 27 rfl R0 3 i0 (.int .i64 0) 1 8 Tryd.underlying27 hi hz0 hz1 hz2 rfl (by decide) _ _ _ rfl HO2.out ⟨g2, 0, none⟩ c.length cap2 (cellsI c) rfl (by simp [cellsI]) Hn.out ?c2 ?c3 ?c4 ?c5 ?_)
                case c2 => intro x hx; unfold cellsI at hx; obtain ⟨y, _, rfl⟩ := List.mem_map.1 hx; rfl
                case c3 => unfold maxLen; omega
                case c4 => omega
                intro v' w1 hown' hgrow hnil
                have HO3 := Lib.hid (show w1.ownsRow R0 3 1 v' (pr (k + 1)).length (cellsI (pr (k + 1))) from by
                  have e : cellsI (p ++ c) = cellsI p ++ cellsI c := by simp [cellsI]
                  rw [Hpn.out, List.length_append, e]
                  exact hown')
                have HB3 := Lib.hid (HB2.out.grown hgrow hsz2 (fun k hk => (HO2.out.lt k hk).1))
                clear hown' hgrow hnil HO2 HB2
                go_wp2_with fail
                go_roundw
                case rel => exact ⟨k + 1, by omega, by go_num, HB3.out, HO3.out⟩
                case measure => simp [intOf]; omega
          · have hke : k = u + 1 := by omega
            subst hke
            have hR0 : R0 ≤ wr.heap.size := by have h1 := HB.out.size; have h2 := HR.out; omega
            go_wp2_with fail
            refine (HSo.out R0 _ _ hR0 HO.out).mono ?_
            rintro e W3 ⟨rfl, hB3, hL3⟩
            have HB3 : Hid (Below W1.heap.size W1 W3) := Lib.hid (by rw [HR.out]; exact HB.out.trans hB3)
            have HL3 := Lib.hid hL3
            clear hB3 hL3 HB HO
            go_wp2_with fail
            refine (HEq.out _ _ _ HL3.out (L1.out.below HB3.out)).mono ?_
            rintro e W4 ⟨rfl, hB⟩
            have B4 : Hid (Below w.heap.size w W4) := Lib.hid (bt (bt B1.out HB3.out) hB)
            clear hB HB3 HL3
            go_wp2_with fail
            refine (awake_good _ (HG.out.below B4.out)).mono ?_
            rintro e W10 ⟨rfl, hB⟩
            have B10 : Hid (Below w.heap.size w W10) := Lib.hid (bt B4.out hB)
            clear hB B4
            go_wp2_with fail
            go_ret
            exact ⟨rfl, B10.out⟩
end Go.Proofs.YtienbebbgioccaaDoor
