/- LexerStands. -/
import Derived.Test.YtgckopicmobbgaaDoorLzA
import Derived.Test.YtgckopicmobbgaaDoorLzN
import Derived.Test.YtgckopicmobbgaaDoorShelB
import Derived.WalkKit
import Derived.WalkSpells
import Derived.WalkLawsBesides
import Derived.Handy
import Derived.Deep.QuietTactic
import Derived.BigQuiet
import Derived.Outline
import Derived.Laws.BitsAllLaws
import Derived.IntWalk
import Derived.Lib.SmallJoins
import Derived.Lib.Hide
import Derived.Deep.DeepCutAuto
import Derived.LoopTactic
import Derived.Deep.RegionWith
import Derived.Lib.ConvBytes
import Derived.OwnWalk
import Derived.Laws.MakeOwn
import Derived.Laws.IdiomStrings
import Derived.Deep.RegionHeld3
namespace Go.Proofs.YtgckopicmobbgaaDoor
set_option linter.unusedVariables false
set_option linter.unusedSimpArgs false
open Go.RowKit Lex

/-- Where the token before the i-th ends. -/
def endP (l : List Tk) (i : Nat) : Nat := if i = 0 then 0 else (l.getD (i - 1) ⟨0, [], 0⟩).pl + (l.getD (i - 1) ⟨0, [], 0⟩).tx.length
theorem stands_at (s : ByteArray) (l : List Tk) (h : Chn (bl s) 0 l) (i : Nat) (hi : i < l.length) : ∃ (kd : Int) (tx : List Nat) (pl : Nat), (l.map tkj).getD i default = ⟨kd, tx, (pl : Int)⟩ ∧ endP l i ≤ pl ∧ pl + tx.length ≤ s.size ∧ s.extract pl (pl + tx.length) = mk tx ∧ gapB false (((bl s).drop (endP l i)).take (pl - endP l i)) = true ∧ endP l (i + 1) = pl + tx.length ∧ (i + 1 = l.length → kd = 3 ∧ pl + tx.length = s.size) ∧ (i + 1 ≠ l.length → kd ≠ 3) := by
  obtain ⟨p', hp', h1, h2, h3, h4, h5, h6⟩ := chn_at (bl s) l 0 i h hi
  have e : p' = endP l i := hp'
  subst e
  have hg : (l.map tkj).getD i default = tkj l[i] := by
    rw [List.getD_eq_getElem?_getD, List.getElem?_map, List.getElem?_eq_getElem hi]
    rfl
  have hg2 : l.getD i ⟨0, [], 0⟩ = l[i] := by
    rw [List.getD_eq_getElem?_getD, List.getElem?_eq_getElem hi]
    rfl
  rw [bl_len] at h2 h5
  refine ⟨(l[i].kd : Int), l[i].tx, l[i].pl, hg, h1, h2, ?_, h4, ?_, fun e => ?_, fun e => ?_⟩
  · rw [ext_mk, Nat.add_sub_cancel_left, h3]
  · unfold endP
    rw [if_neg (by omega), Nat.add_sub_cancel, hg2]
  · obtain ⟨a, b⟩ := h5 e
    exact ⟨by rw [a]; rfl, b⟩
  · have := h6 e
    omega
theorem con1 (c : Nat) (hc : isBlk c = true) : c = 32 ∨ c = 9 ∨ c = 13 ∨ c = 10 := by
  unfold isBlk at hc
  simp at hc
  omega
set_option maxRecDepth 100000 in
set_option maxHeartbeats 4000000 in
theorem stands_ok (s : ByteArray) (w : World) (hG : WG w) : Calls Tryd.prog 7 #[.string s] w fun e w' => e = .returned (.bool true) ∧ Below w.heap.size w w' := by
  have G := Lib.hid hG
  by_cases hl : 400 < s.size
  · have hl1 : (400 : Int) < (s.size : Int) := by omega
    clear hl hG
    go_enter Tryd.func7, Tryd.ntmps7
    go_wp2_with fail
    refine (awake_ok _ G.out).mono ?_
    rintro e W1 ⟨rfl, hb⟩
    have B := Lib.hid hb
    clear hb
    go_wp2_with fail
    go_ret
    exact ⟨rfl, B.out⟩
  have hl1 : ¬ (400 : Int) < (s.size : Int) := by omega
  have hs1 : (s.size : Int) ≤ 400 := by omega
  have hs4 : s.size ≤ 400 := by omega
  have H1 := Lib.hid (fun W h => scan_any s (by omega) W h)
  have hchn := scanL_chn (bl s) (by rw [bl_len]; omega)
  have hbad : (scanL (bl s)).2.2 ≠ 0 → (scanL (bl s)).1 = [] := by
    unfold scanL
    rw [if_neg (by rw [bl_len]; omega)]
    exact scanF_bad _ _ _ _
  have hll : (scanL (bl s)).1.length ≤ 1000000 := scanL_len (bl s) (by rw [bl_len]; omega)
  obtain ⟨r, hr⟩ : ∃ r, scanL (bl s) = r := ⟨_, rfl⟩
  obtain ⟨l, pa, ca⟩ := r
  rw [hr] at H1 hchn hbad hll
  dsimp only at hchn hbad hll
  clear hr
  by_cases hc : ca = 0
  case neg =>
    have hca : ¬ (ca : Int) = 0 := by omega
    have e := hbad hc
    subst e
    clear hchn hbad hc hll hl hG hs4
    go_enter Tryd.func7, Tryd.ntmps7
    go_wp2_with fail
    refine (H1.out _ G.out.sg).mono ?_
    rintro e W1 ⟨v1, rfl, hr1, hb⟩
    obtain ⟨o1, c1, rfl, hcap1, hlt1⟩ := hr1.shape2
    have B1 := Lib.hid hb
    replace G := Lib.hid (G.out.below hb)
    clear hb hr1 hlt1 hcap1
    dsimp only [List.length_nil]
    go_wp2_with fail
    refine (awake_ok _ G.out).mono ?_
    rintro e W4 ⟨rfl, hb⟩
    have B4 := Lib.hid (B1.out.trans (Joins.below_le hb B1.out.size))
    clear hb
    go_wp2_with fail
    go_ret
    exact ⟨rfl, B4.out⟩
  subst hc
  have hch := hchn rfl
  have hst := stands_at s l hch
  have hpos : 0 < l.length := List.length_pos_iff.2 (chn_ne hch)
  obtain ⟨N, hN⟩ : ∃ N, l.length = N := ⟨_, rfl⟩
  rw [hN] at hst hpos hll
  have hfin : endP l N = s.size := by
    obtain ⟨kd, tx, pl, _, _, _, _, _, h6, h7, _⟩ := hst (N - 1) (by omega)
    rw [Nat.sub_add_cancel hpos] at h6 h7
    rw [h6]
    exact (h7 rfl).2
  have HN := Lib.hid hN
  have HSt := Lib.hid hst
  have HFin := Lib.hid hfin
  have HPos := Lib.hid hpos
  have HS4 := Lib.hid hs4
  obtain ⟨N1, hN1⟩ : ∃ N1, N - 1 = N1 := ⟨_, rfl⟩
  have HN1 := Lib.hid hN1
  have hwN : IntKind.i64.wrap ((N : Int) - 1) = (N1 : Int) := by rw [IntWalk.i64_in _ (by omega)]; omega
  have hN0 : (0 : Int) < (N : Int) := by omega
  have HLL := Lib.hid hll
  have hcon := fun (c : UInt8) (h : Lib.contains [32, 9, 13, 10] [c] = true) (W : World) (hm : ∃ m, W.cell? ⟨2, 0, none⟩ = some (.int .i64 m)) => show Calls Tryd.prog 31 #[.string { data := #[32, 9, 13, 10] }, .string { data := #[c] }] W (fun e w' => e = .returned (.bool true) ∧ w' = W) from by
    obtain ⟨m, hm⟩ := hm
    have h1 := Tryd.strings_Contains { data := #[32, 9, 13, 10] } { data := #[c] } m W (by decide) hm
    have h2 : Lib.contains ({ data := #[32, 9, 13, 10] } : ByteArray).data.toList ({ data := #[c] } : ByteArray).data.toList = true := h
    rw [h2] at h1
    exact h1
  have HCon1 := Lib.hid (hcon 32 (by decide))
  have HCon2 := Lib.hid (hcon 9 (by decide))
  have HCon3 := Lib.hid (hcon 13 (by decide))
  have HCon4 := Lib.hid (hcon 10 (by decide))
  clear hcon
  clear hchn hbad hch hst hfin hl hG hs4 hN hpos hN1
  go_enter Tryd.func7, Tryd.ntmps7
  go_wp2_with fail
  refine (H1.out _ G.out.sg).mono ?_
  rintro e W1 ⟨v1, rfl, hr1, hb⟩
  obtain ⟨o1, c1, rfl, hcap1, hlt1⟩ := hr1.shape2
  have B1 := Lib.hid hb
  replace G := Lib.hid (G.out.below hb)
  have L1 := Lib.hid hlt1
  dsimp only at L1 ⊢
  rw [HN.out]
  try rw [show ((0 : Nat) : Int) = 0 from rfl]
  clear hb hr1 hlt1 hcap1
  go_wp2_with fail
  go_loopw [32, 6] (fun j v wr => ∃ i p : Nat, i ≤ N ∧ j = .int .i64 (i : Int) ∧ v = .int .i64 (p : Int) ∧ p = endP l i ∧ Below W1.heap.size W1 wr) (fun j _ _ => N - (intOf j).toNat)
  case atStart => exact ⟨0, 0, by omega, by first | trivial | rfl, by first | trivial | rfl, rfl, Below.refl _ _⟩
  case round =>
    obtain ⟨i, p, hi, rfl, rfl, hp, hbe⟩ := hrel
    by_cases hlt : i < N
    · have hi1 : (i : Int) < (N : Int) := by omega
      have hi0 : (0 : Int) ≤ (i : Int) := by omega
      obtain ⟨b1, f1, rfl, hb1, hc1⟩ := (L1.out.below hbe) (by rw [List.length_map, HN.out]; omega)
      obtain ⟨x0, x1, x2⟩ := hc1 i (by rw [List.length_map, HN.out]; exact hlt)
      obtain ⟨kd, tx, pl, t1, t2, t3, t4, t5, t6, t7, t8⟩ := HSt.out i hlt
      rw [← hp] at t2 t5
      rw [t1] at x0 x1 x2
      dsimp only at x0 x1 x2
      have htl := mk_size tx
      obtain ⟨tb, htb⟩ : ∃ tb, mk tx = tb := ⟨_, rfl⟩
      rw [htb] at x1 t4 htl
      rw [← htl] at t3 t4 t6 t7
      have hs4 := HS4.out
      have hM1 := HLL.out
      obtain ⟨E, hE⟩ : ∃ E, pl + tb.size = E := ⟨_, rfl⟩
      rw [hE] at t3 t4 t6 t7
      have hwE : IntKind.i64.wrap ((pl : Int) + (tb.size : Int)) = (E : Int) := by rw [IntWalk.i64_in _ (by omega)]; omega
      have hp1 : (p : Int) ≤ (pl : Int) := by omega
      have hp2 : ¬ (pl : Int) < (p : Int) := by omega
      have hE1 : (E : Int) ≤ (s.size : Int) := by omega
      have hE2 : ¬ (s.size : Int) < (E : Int) := by omega
      have hE3 : (pl : Int) ≤ (E : Int) := by omega
      have hE4 : (pl : Int) ≤ (s.size : Int) := by omega
      have hp3 : ¬ pl < p := by omega
      have hp4 : p ≤ pl := by omega
      have hE5 : ¬ s.size < E := by omega
      have hE6 : pl ≤ E := by omega
      have hE7 : E ≤ s.size := by omega
      have hp0 : (0 : Int) ≤ (p : Int) := by omega
      have hpl0 : (0 : Int) ≤ (pl : Int) := by omega
      have hkl : (i + 1 = N ∧ kd = 3 ∧ i = N1) ∨ (¬ kd = 3 ∧ ¬ (i : Int) = (N1 : Int) ∧ ¬ i = N1) := by
        have := HN1.out
        by_cases h : i + 1 = N
        · exact .inl ⟨h, (t7 h).1, by omega⟩
        · exact .inr ⟨t8 h, by omega, by omega⟩
      have HKl := Lib.hid hkl
      have HT5 := Lib.hid t5
      have HT6 := Lib.hid t6
      have HBe := Lib.hid hbe
      have HPl := Lib.hid t2
      have HEs := Lib.hid t3
      have HCut := Lib.hid (fun n => show Below wr.heap.size wr ((wr.alloc (.cells #[.int .i64 kd, .string tb, .int .i64 (pl : Int)] 32)).drewN n) ∧ ((wr.alloc (.cells #[.int .i64 kd, .string tb, .int .i64 (pl : Int)] 32)).drewN n).cell? ⟨wr.heap.size, 0, none⟩ = some (.int .i64 kd) ∧ ((wr.alloc (.cells #[.int .i64 kd, .string tb, .int .i64 (pl : Int)] 32)).drewN n).cell? ⟨wr.heap.size, 1, none⟩ = some (.string tb) ∧ ((wr.alloc (.cells #[.int .i64 kd, .string tb, .int .i64 (pl : Int)] 32)).drewN n).cell? ⟨wr.heap.size, 2, none⟩ = some (.int .i64 (pl : Int)) ∧ wr.heap.size < ((wr.alloc (.cells #[.int .i64 kd, .string tb, .int .i64 (pl : Int)] 32)).drewN n).heap.size from by
        have hnb := newblock wr (.cells #[.int .i64 kd, .string tb, .int .i64 (pl : Int)] 32)
        exact ⟨below_dnk n ((Below.refl _ _).alloc (Nat.le_refl _) _), Joins.cell_of_block hnb 0, Joins.cell_of_block hnb 1, Joins.cell_of_block hnb 2, (Array.getElem?_eq_some_iff.1 hnb).1⟩)
      clear hc1 t1 t2 t3 t5 t6 t7 t8 htl htb hE hkl hp hbe hs4
      go_wp2_with fail
      go_cut [77] (fun x wx => x = .bool false ∧ Below wr.heap.size wr wx ∧ wx.cell? ⟨wr.heap.size, 0, none⟩ = some (.int .i64 kd) ∧ wx.cell? ⟨wr.heap.size, 1, none⟩ = some (.string tb) ∧ wx.cell? ⟨wr.heap.size, 2, none⟩ = some (.int .i64 (pl : Int)) ∧ wr.heap.size < wx.heap.size)
      case first =>
        rcases HKl.out with ⟨_, rfl, rfl⟩ | ⟨hk1, hk2, hk3⟩
        · go_quiet (fail)
          all_goals
            go_wp2_with fail
            go_meet
            exact ⟨by first | rfl | simp, HCut.out _⟩
        · have e1 : (kd == 3) = false := by rw [beq_eq_false_iff_ne]; exact hk1
          have e2 : ((i : Int) == (N1 : Int)) = false := by rw [beq_eq_false_iff_ne]; exact hk2
          go_quiet (fail)
          all_goals
            go_wp2_with fail
            go_meet
            exact ⟨by first | rfl | simp [e1, e2], HCut.out _⟩
      case rest =>
        obtain ⟨rfl, hbx, y0, y1, y2, hsz⟩ := hcut
        rename World => wx
        have HBx := Lib.hid hbx
        have hpl := HPl.out
        have hes := HEs.out
        have hs4 := HS4.out
        have hTs : (s.extract p pl).size = pl - p := by rw [ByteArray.size_extract]; omega
        have hTb : bl (s.extract p pl) = ((bl s).drop p).take (pl - p) := bl_extract s p pl
        obtain ⟨T, hT⟩ : ∃ T, s.extract p pl = T := ⟨_, rfl⟩
        rw [hT] at hTs hTb
        have HGap := Lib.hid (show gapB false (bl T) = true by rw [hTb]; exact HT5.out)
        have hT4 : T.size ≤ 400 := by omega
        obtain ⟨W2, cap, hcv, hb2, hlt2, hcl⟩ := conv_bytes T wx
        obtain ⟨M, hM⟩ : ∃ M, wx.heap.size = M := ⟨_, rfl⟩
        rw [hM] at hcv hcl hlt2
        have HCl := Lib.hid hcl
        have HB2 := Lib.hid hb2
        have HM := Lib.hid hM
        have z1 : W2.cell? ⟨wr.heap.size, 1, none⟩ = some (.string tb) := (hb2.cell (p := ⟨wr.heap.size, 1, none⟩) hsz).trans y1
        have z2 : W2.cell? ⟨wr.heap.size, 2, none⟩ = some (.int .i64 (pl : Int)) := (hb2.cell (p := ⟨wr.heap.size, 2, none⟩) hsz).trans y2
        have hsz2 : wr.heap.size < W2.heap.size := Nat.lt_of_lt_of_le hsz hb2.size
        have HZ1 := Lib.hid (fun V (hV : Below W2.heap.size W2 V) => show V.cell? ⟨wr.heap.size, 1, none⟩ = some (.string tb) from (hV.cell (p := ⟨wr.heap.size, 1, none⟩) hsz2).trans z1)
        have HZ2 := Lib.hid (fun V (hV : Below W2.heap.size W2 V) => show V.cell? ⟨wr.heap.size, 2, none⟩ = some (.int .i64 (pl : Int)) from (hV.cell (p := ⟨wr.heap.size, 2, none⟩) hsz2).trans z2)
        have HLt2 := Lib.hid hlt2
        have hlast : Below W1.heap.size W1 W2 := HBe.out.trans (Joins.below_le (HBx.out.trans (Joins.below_le hb2 HBx.out.size)) HBe.out.size)
        have HLast := Lib.hid hlast
        have HML := Lib.hid (fun V (hV : Below W2.heap.size W2 V) => ((G.out.below HLast.out).below hV).ml.2)
        clear hbx hpl hes hs4 hTs hTb hcl hb2 hM z1 z2 hsz2 hlt2 hlast HCut
        go_wp2_with fail
        go_loopw [9, 85] (fun v j wz => ∃ (i2 : Nat) (B : Bool), i2 ≤ T.size ∧ v = .bool B ∧ j = .int .i64 (i2 : Int) ∧ gapB B ((bl T).drop i2) = true ∧ Below W2.heap.size W2 wz) (fun _ j _ => T.size - (intOf j).toNat)
        case atStart => exact ⟨0, false, by omega, by first | trivial | rfl, by first | trivial | rfl, by rw [List.drop_zero]; exact HGap.out, Below.refl _ _⟩
        case round =>
          obtain ⟨i2, B, hi2, rfl, rfl, hgp, hbz⟩ := hrel
          by_cases hlt2 : i2 < T.size
          · have hi21 : (i2 : Int) < (T.size : Int) := by omega
            have hcell := (hbz.cell (p := ⟨M, i2, none⟩) HLt2.out).trans (HCl.out i2 hlt2)
            have hbd := bl_drop hlt2
            obtain ⟨c, hcc⟩ : ∃ c, T[i2].toNat = c := ⟨_, rfl⟩
            rw [hcc] at hcell hbd
            rw [hbd, gapB] at hgp
            have hc256 : c < 256 := by rw [← hcc]; exact T[i2].toNat_lt
            have HBz := Lib.hid hbz
            have HC := Lib.hid (show (cmt B c = true ∧ gapB true ((bl T).drop (i2 + 1)) = true) ∨ (cmt B c = false ∧ (c = 32 ∨ c = 9 ∨ c = 13 ∨ c = 10) ∧ gapB false ((bl T).drop (i2 + 1)) = true) from by
              cases hcm : cmt B c with
              | true =>
                rw [hcm, if_pos rfl] at hgp
                exact .inl ⟨rfl, hgp⟩
              | false =>
                rw [hcm, if_neg (by decide)] at hgp
                have h := Bool.and_eq_true_iff.1 hgp
                exact .inr ⟨rfl, con1 c h.1, h.2⟩)
            have hcap2 : T.size ≤ 400 := hT4
            clear hbd hgp hbz hcc hlt2
            rcases HC.out with ⟨hcm, hg⟩ | ⟨hcm, hc4, hg⟩
            · have HGr := Lib.hid hg
              by_cases h35 : c = 35
              · subst h35
                clear hcm hg HC
                cases B <;>
                · go_wp2_with fail
                  go_roundw
                  case rel => exact ⟨i2 + 1, true, by omega, by first | trivial | rfl | (simp <;> omega), by go_num, HGr.out, by first | exact HBz.out | exact below_dn _ HBz.out | exact below_dn 1 HBz.out⟩
                  case measure => simp [intOf]; omega
              · cases B with
                | false =>
                  unfold cmt at hcm
                  simp [h35] at hcm
                | true =>
                  have h10 : ¬ c = 10 := by
                    unfold cmt at hcm
                    simpa [h35] using hcm
                  have h35i : ¬ (c : Int) = 35 := by omega
                  have h10i : ¬ (c : Int) = 10 := by omega
                  clear hcm hg HC
                  go_wp2_with fail
                  go_roundw
                  case rel => exact ⟨i2 + 1, true, by omega, by first | trivial | rfl | (simp <;> omega), by go_num, HGr.out, by first | exact HBz.out | exact below_dn _ HBz.out | exact below_dn 1 HBz.out⟩
                  case measure => simp [intOf]; omega
            · have HGr := Lib.hid hg
              cases B with
              | true =>
                have h10 : c = 10 := by
                  unfold cmt at hcm
                  simp at hcm
                  omega
                subst h10
                clear hcm hg HC hc4
                go_wp2_with fail
                refine (HCon4.out _ (HML.out _ HBz.out)).mono ?_
                rintro e w' ⟨rfl, rfl⟩
                go_wp2_with fail
                go_roundw
                case rel => exact ⟨i2 + 1, false, by omega, by first | trivial | rfl, by go_num, HGr.out, by first | exact HBz.out | exact below_dn _ HBz.out | exact below_dn 1 HBz.out⟩
                case measure => simp [intOf]; omega
              | false =>
                clear hcm hg HC
                rcases hc4 with rfl | rfl | rfl | rfl
                · go_wp2_with fail
                  refine (HCon1.out _ (HML.out _ HBz.out)).mono ?_
                  rintro e w' ⟨rfl, rfl⟩
                  go_wp2_with fail
                  go_roundw
                  case rel => exact ⟨i2 + 1, false, by omega, by first | trivial | rfl, by go_num, HGr.out, by first | exact HBz.out | exact below_dn _ HBz.out | exact below_dn 1 HBz.out⟩
                  case measure => simp [intOf]; omega
                · go_wp2_with fail
                  refine (HCon2.out _ (HML.out _ HBz.out)).mono ?_
                  rintro e w' ⟨rfl, rfl⟩
                  go_wp2_with fail
                  go_roundw
                  case rel => exact ⟨i2 + 1, false, by omega, by first | trivial | rfl, by go_num, HGr.out, by first | exact HBz.out | exact below_dn _ HBz.out | exact below_dn 1 HBz.out⟩
                  case measure => simp [intOf]; omega
                · go_wp2_with fail
                  refine (HCon3.out _ (HML.out _ HBz.out)).mono ?_
                  rintro e w' ⟨rfl, rfl⟩
                  go_wp2_with fail
                  go_roundw
                  case rel => exact ⟨i2 + 1, false, by omega, by first | trivial | rfl, by go_num, HGr.out, by first | exact HBz.out | exact below_dn _ HBz.out | exact below_dn 1 HBz.out⟩
                  case measure => simp [intOf]; omega
                · go_wp2_with fail
                  refine (HCon4.out _ (HML.out _ HBz.out)).mono ?_
                  rintro e w' ⟨rfl, rfl⟩
                  go_wp2_with fail
                  go_roundw
                  case rel => exact ⟨i2 + 1, false, by omega, by first | trivial | rfl, by go_num, HGr.out, by first | exact HBz.out | exact below_dn _ HBz.out | exact below_dn 1 HBz.out⟩
                  case measure => simp [intOf]; omega
          · obtain rfl : i2 = T.size := by omega
            have HBz := Lib.hid hbz
            have a1 := HZ1.out _ hbz
            have a2 := HZ2.out _ hbz
            have hM2 := HLL.out
            clear hgp hbz hlt2
            go_wp2_with fail
            go_roundw
            case rel => exact ⟨i + 1, E, by omega, by go_num, by first | trivial | rfl | go_num, HT6.out.symm, HLast.out.trans (Joins.below_le HBz.out HLast.out.size)⟩
            case measure => simp [intOf]; omega
    · obtain rfl : i = N := by omega
      have hfin := HFin.out
      rw [hfin] at hp
      subst hp
      have B2 := Lib.hid (B1.out.trans (Joins.below_le hbe B1.out.size))
      replace G := Lib.hid (G.out.below hbe)
      clear hfin hbe hlt
      go_wp2_with fail
      refine (awake_ok _ G.out).mono ?_
      rintro e W4 ⟨rfl, hb⟩
      have B4 := Lib.hid (B2.out.trans (Joins.below_le hb B2.out.size))
      clear hb
      go_wp2_with fail
      go_ret
      exact ⟨rfl, B4.out⟩

end Go.Proofs.YtgckopicmobbgaaDoor
