/- The specification: Glue, Join. -/
import Derived.Test.YtbkmcibibppjeaaPtV
import Derived.WalkKit
import Derived.WalkSpells
import Derived.WalkLawsBesides
import Derived.Handy
import Derived.Deep.QuietTactic
import Derived.BigQuiet
import Derived.Outline
import Derived.Laws.BitsAllLaws
import Derived.IntWalk
import Derived.Lib.SmallJoins
import Derived.Lib.Hide
import Derived.Deep.DeepCutAuto
import Derived.LoopTactic
import Derived.Deep.RegionWith
import Derived.Test.YtbkmcibibppjeaaPtW
namespace Go.Proofs.Ytbkmcibibppjeaa
set_option linter.unusedVariables false
set_option linter.unusedSimpArgs false
open Go.RowKit Part
theorem Box.drewN {w : World} {b : Nat} {c : Array Value} {t : TypeId} (h : Box w b c t) (n : Nat) : Box (w.drewN n) b c t := h
/-- The sum of the cells of a block. -/
def sumW (n b : Nat) (w : World) : Nat := sumq n fun i => match w.cell? ⟨b, i, none⟩ with | some v => (intOf v).toNat | none => 0
theorem sumW_box {n b : Nat} {w : World} {q : Nat → Nat} (h : Box w b (vec n (zf q)) 3) : sumW n b w = sumq n q := by
  unfold sumW sumq
  congr 1
  exact List.map_congr_left fun i hi => by
    rw [h.cell, vec_get _ (List.mem_range.1 hi)]
    simp [intOf, zf]
def gm (n b : Nat) (v : Value) (w : World) : Nat := 2 * sumW n b w + (match v with | .bool true => 1 | _ => 0)
def GRes (n : Nat) (a b : Nat → Nat) (w : World) (e : Ending) (w' : World) : Prop := ∃ m, IsJoin n a b m ∧ LRes n (zf m) w e w'

set_option maxRecDepth 100000 in
set_option maxHeartbeats 4000000 in
theorem glue_any (n : Nat) (f g : Nat → Int) (hf : Good n f) (hg : Good n g) (o p : Option Addr) (cap cap' : Nat) (w : World) (hL : Lz w o n f) (hL' : Lz w p n g) : Calls Try.prog 54 #[.slice o n cap, .slice p n cap'] w (GRes n (nat f) (nat g) w) := by
  have hn := hf.1
  have hmk := fun w => run_vec n hn w
  obtain ⟨a, ha⟩ : ∃ a, nat f = a := ⟨_, rfl⟩
  obtain ⟨b, hb⟩ : ∃ b, nat g = b := ⟨_, rfl⟩
  rw [ha, hb]
  have HEa : Hid (∀ j, j < n → f j = ((a j : Nat) : Int)) := Lib.hid (fun j hj => by have h1 := hf.2.1 j hj; rw [← ha]; show f j = ((f j).toNat : Int); omega)
  have HEb : Hid (∀ j, j < n → g j = ((b j : Nat) : Int)) := Lib.hid (fun j hj => by have h1 := hg.2.1 j hj; rw [← hb]; show g j = ((g j).toNat : Int); omega)
  have HL := Lib.hid hL
  have HL' := Lib.hid hL'
  clear hL hL' hf hg ha hb
  go_enter Try.func54, Try.ntmps54
  go_wp2_with fail
  go_loopw [6] (fun j wr => ∃ i : Nat, i ≤ n ∧ j = .int .i64 (i : Int) ∧ Box wr w.heap.size (vec n (idf i)) 3 ∧ Below w.heap.size w wr) (fun j _ => n - (intOf j).toNat)
  case atStart => exact ⟨0, by omega, rfl, (vec_congr (n := n) (f := fun _ => 0) (g := idf 0) (fun i _ => by simp [idf])) ▸ (Box.new w _ _), (Below.refl _ _).alloc (Nat.le_refl _) _⟩
  case round =>
    clear hmk
    obtain ⟨i, hi, rfl, hbox, hb⟩ := hrel
    have HB := Lib.hid hbox
    have HBe := Lib.hid hb
    clear hbox hb
    by_cases hlt : i < n
    · have hc := (HB.out.cell i).trans (vec_get _ hlt)
      have hfr := HB.out.open_ i
      go_wp2_with fail
      go_roundw
      case rel => exact ⟨i + 1, by omega, by go_num, idf_step n i ▸ HB.out.setv i _, HBe.out.setCell (by simp) _⟩
      case measure => simp [intOf]; omega
    · have e : i = n := by omega
      subst e
      have hb0 : Box wr w.heap.size (vec i (zf fun j => j)) 3 := (vec_congr (n := i) (f := idf i) (g := zf fun i => i) (fun j hj => by simp [idf, zf, hj])) ▸ HB.out
      have HB0 := Lib.hid hb0
      clear hb0 HB hlt hi
      obtain ⟨n, hn_⟩ : ∃ n, n = i := ⟨_, rfl⟩
      subst hn_
      go_wp2_with fail
      go_loopw [7] (fun v wr => ∃ (q : Nat → Nat) (fl : Bool), v = .bool fl ∧ Box wr w.heap.size (vec n (zf q)) 3 ∧ Below w.heap.size w wr ∧ SoundQ n a b q ∧ (fl = false → FairQ a b q n)) (fun v wr => gm n w.heap.size v wr)
      case atStart => exact ⟨_, true, rfl, HB0.out, HBe.out, soundq_id n a b, fun h => by cases h⟩
      case round =>
        clear HB0 HBe
        obtain ⟨q0, fl, rfl, hbx, hbe, hso, hfa⟩ := hrel
        have HBx0 := Lib.hid hbx
        have HBe0 := Lib.hid hbe
        have HSo0 := Lib.hid hso
        have HFa0 := Lib.hid hfa
        clear hbx hbe hso hfa
        cases fl with
        | false =>
          have hlz := HBx0.out.lz
          go_wp2_with fail
          refine (rlabels_any n hn (zf q0) _ n _ hlz).mono ?_
          rintro e V ⟨o2, c2, rfl, hl2, hb2⟩
          have HL2 := Lib.hid hl2
          have HB2 := Lib.hid hb2
          clear hl2 hb2 hlz
          go_wp2_with fail
          go_ret
          exact ⟨_, glue_done HSo0.out (HFa0.out (by simp)), _, _, rfl, HL2.out, HBe0.out.trans (HB2.out.mono HBe0.out.size)⟩
        | true =>
          obtain ⟨s0, hs0⟩ : ∃ s0, sumq n q0 = s0 := ⟨_, rfl⟩
          have HS0 := Lib.hid hs0
          clear hs0
          go_wp2_with fail
          go_loopw [7, 8] (fun v j wr => ∃ i : Nat, i ≤ n ∧ j = .int .i64 (i : Int) ∧ ∃ (q : Nat → Nat) (fl : Bool), v = .bool fl ∧ Box wr w.heap.size (vec n (zf q)) 3 ∧ Below w.heap.size w wr ∧ SoundQ n a b q ∧ sumq n q ≤ s0 ∧ (fl = false → FairQ a b q i) ∧ (fl = true → sumq n q < s0)) (fun _ j _ => n - (intOf j).toNat)
          case atStart => exact ⟨0, by omega, rfl, q0, false, rfl, HBx0.out, HBe0.out, HSo0.out, Nat.le_of_eq HS0.out, (fun _ x hx => absurd hx (Nat.not_lt_zero _)), fun h => by cases h⟩
          case round =>
            obtain ⟨i, hi, rfl, q, fl, rfl, hbx, hbe, hso, hle, hfa, hlt2⟩ := hrel
            have HBx := Lib.hid hbx
            have HB := Lib.hid hbe
            have HSo := Lib.hid hso
            have HLe := Lib.hid hle
            have HFa := Lib.hid hfa
            have HLt := Lib.hid hlt2
            clear hbx hbe hso hle hfa hlt2
            by_cases hlt : i < n
            · obtain ⟨bl, ofs, rfl, hbl, hcl⟩ := HL.out (by omega)
              obtain ⟨bg, ofg, rfl, hbg, hcg⟩ := HL'.out (by omega)
              have HC := Lib.hid hcl
              have HG := Lib.hid hcg
              clear hcl hcg
              have hi1 : (i : Int) < (n : Int) := by omega
              go_wp2_with fail
              go_loopw [7, 9] (fun v j wr => ∃ k : Nat, k ≤ i ∧ j = .int .i64 (k : Int) ∧ ∃ (q : Nat → Nat) (fl : Bool), v = .bool fl ∧ Box wr w.heap.size (vec n (zf q)) 3 ∧ Below w.heap.size w wr ∧ SoundQ n a b q ∧ sumq n q ≤ s0 ∧ (fl = false → FairQ a b q i ∧ FairQIn a b q i k) ∧ (fl = true → sumq n q < s0)) (fun _ j _ => i - (intOf j).toNat)
              case atStart => exact ⟨0, by omega, rfl, q, fl, rfl, HBx.out, HB.out, HSo.out, HLe.out, (fun e => ⟨HFa.out e, fun y hy => absurd hy (Nat.not_lt_zero _)⟩), HLt.out⟩
              case round =>
                clear HBx HB HSo HLe HFa HLt
                obtain ⟨k, hk, rfl, q, fl, rfl, hbx, hbe, hso, hle, hfa, hlt2⟩ := hrel
                have HBx := Lib.hid hbx
                have HB := Lib.hid hbe
                have HSo := Lib.hid hso
                have HLe := Lib.hid hle
                have HFa := Lib.hid hfa
                have HLt := Lib.hid hlt2
                clear hbx hbe hso hle hfa hlt2
                by_cases hki : k < i
                · have c1 := (HB.out.cell (p := ⟨bl, ofs + i, none⟩) hbl).trans (HC.out i hlt)
                  have c2 := (HB.out.cell (p := ⟨bg, ofg + i, none⟩) hbg).trans (HG.out i hlt)
                  have c3 := (HB.out.cell (p := ⟨bl, ofs + k, none⟩) hbl).trans (HC.out k (by omega))
                  have c4 := (HB.out.cell (p := ⟨bg, ofg + k, none⟩) hbg).trans (HG.out k (by omega))
                  have c5 := (HBx.out.cell i).trans (vec_get _ hlt)
                  have c6 := (HBx.out.cell k).trans (vec_get _ (show k < n by omega))
                  have f5 := HBx.out.open_ i
                  have f6 := HBx.out.open_ k
                  rw [HEa.out i hlt] at c1
                  rw [HEa.out k (by omega)] at c3
                  rw [HEb.out i hlt] at c2
                  rw [HEb.out k (by omega)] at c4
                  have hk1 : (k : Int) < (n : Int) := by omega
                  have hki' : (k : Int) < (i : Int) := by omega
                  unfold zf at c5 c6
                  obtain ⟨ai, hai⟩ : ∃ x, a i = x := ⟨_, rfl⟩
                  obtain ⟨ak, hak⟩ : ∃ x, a k = x := ⟨_, rfl⟩
                  obtain ⟨bi, hbi⟩ : ∃ x, b i = x := ⟨_, rfl⟩
                  obtain ⟨bk, hbk⟩ : ∃ x, b k = x := ⟨_, rfl⟩
                  obtain ⟨qi, hqi⟩ : ∃ x, q i = x := ⟨_, rfl⟩
                  obtain ⟨qk, hqk⟩ : ∃ x, q k = x := ⟨_, rfl⟩
                  rw [hai] at c1
                  rw [hbi] at c2
                  rw [hak] at c3
                  rw [hbk] at c4
                  rw [hqi] at c5
                  rw [hqk] at c6
                  have HAI := Lib.hid hai
                  have HAK := Lib.hid hak
                  have HBI := Lib.hid hbi
                  have HBK := Lib.hid hbk
                  have HQI := Lib.hid hqi
                  have HQK := Lib.hid hqk
                  clear hai hak hbi hbk hqi hqk
                  by_cases haa : ai = ak
                  · have hside : a i = a k ∨ b i = b k := .inl (by rw [HAI.out, HAK.out]; exact haa)
                    have HSide := Lib.hid hside
                    clear hside
                    subst haa
                    by_cases hqq : qi = qk
                    · subst hqq
                      go_wp2_with fail
                      go_quiet (fail)
                      go_wp2_with fail
                      go_roundw
                      case rel => exact ⟨k + 1, by omega, by go_num, q, fl, rfl, HBx.out.drewN _, below_dn _ HB.out, HSo.out, HLe.out, fun e => ⟨(HFa.out e).1, fun y hy e2 => by
                        by_cases ey : y = k
                        · subst ey; rw [HQI.out, HQK.out]
                        · exact (HFa.out e).2 y (by omega) e2⟩, HLt.out⟩
                      case measure => simp [intOf]; omega
                    · skip
                      have hstep := HSo.out.step hlt (show k < n by omega) (HSide.out)
                      have hlow := low2_lt hlt (show k < n by omega) (show q i ≠ q k by rw [HQI.out, HQK.out]; exact hqq)
                      have HStep := Lib.hid hstep
                      have HLow := Lib.hid hlow
                      clear hstep hlow
                      have hne : (qi != qk) = true := by rw [bne_iff_ne]; exact hqq
                      have hne3 : ((qi : Int) != (qk : Int)) = true := by rw [bne_iff_ne]; omega
                      have hne2 : (qi == qk) = false := by rw [beq_eq_false_iff_ne]; exact hqq
                      rcases Nat.lt_or_gt_of_ne hqq with hlt2 | hlt2
                      · have hlt3 : (qi : Int) < (qk : Int) := by omega
                        have hmn : min (qi : Int) (qk : Int) = (qi : Int) := by omega
                        have hl2 : low2 q i k = upd (upd q i qi) k qi := by unfold low2; rw [HQI.out, HQK.out, Nat.min_eq_left (by omega)]
                        have HL2 := Lib.hid hl2
                        clear hqq hl2
                        go_wp2_with fail
                        go_quiet (fail)
                        go_wp2_with fail
                        go_quiet (fail)
                        go_wp2_with fail
                        go_roundw
                        case rel =>
                          have hbx2 : ∀ nq, Box (((wr.drewN nq).setCell ⟨w.heap.size, i, none⟩ (.int .i64 (qi : Int))).setCell ⟨w.heap.size, k, none⟩ (.int .i64 (qi : Int))) w.heap.size (vec n (zf (low2 q i k))) 3 := fun nq => by
                            have h := ((HBx.out.drewN nq).setv i (qi : Int)).setv k (qi : Int)
                            rw [zf_upd, zf_upd, ← HL2.out] at h
                            exact h
                          exact ⟨k + 1, by omega, by go_num, low2 q i k, true, rfl, hbx2 _, ((below_dn _ HB.out).setCell (by simp) _).setCell (by simp) _, HStep.out, by have h1 := HLow.out; have h2 := HLe.out; omega, (fun h => by cases h), fun _ => by have h1 := HLow.out; have h2 := HLe.out; omega⟩
                        case measure => simp [intOf]; omega
                      · have hlt3 : (qk : Int) < (qi : Int) := by omega
                        have hmn : min (qi : Int) (qk : Int) = (qk : Int) := by omega
                        have hl2 : low2 q i k = upd (upd q i qk) k qk := by unfold low2; rw [HQI.out, HQK.out, Nat.min_eq_right (by omega)]
                        have HL2 := Lib.hid hl2
                        clear hqq hl2
                        go_wp2_with fail
                        go_quiet (fail)
                        go_wp2_with fail
                        go_quiet (fail)
                        go_wp2_with fail
                        go_roundw
                        case rel =>
                          have hbx2 : ∀ nq, Box (((wr.drewN nq).setCell ⟨w.heap.size, i, none⟩ (.int .i64 (qk : Int))).setCell ⟨w.heap.size, k, none⟩ (.int .i64 (qk : Int))) w.heap.size (vec n (zf (low2 q i k))) 3 := fun nq => by
                            have h := ((HBx.out.drewN nq).setv i (qk : Int)).setv k (qk : Int)
                            rw [zf_upd, zf_upd, ← HL2.out] at h
                            exact h
                          exact ⟨k + 1, by omega, by go_num, low2 q i k, true, rfl, hbx2 _, ((below_dn _ HB.out).setCell (by simp) _).setCell (by simp) _, HStep.out, by have h1 := HLow.out; have h2 := HLe.out; omega, (fun h => by cases h), fun _ => by have h1 := HLow.out; have h2 := HLe.out; omega⟩
                        case measure => simp [intOf]; omega
                  · have hna : (ai == ak) = false := by rw [beq_eq_false_iff_ne]; exact haa
                    have hna2 : ((ai : Int) == (ak : Int)) = false := by rw [beq_eq_false_iff_ne]; omega
                    by_cases hbb : bi = bk
                    · have hside : a i = a k ∨ b i = b k := .inr (by rw [HBI.out, HBK.out]; exact hbb)
                      have HSide := Lib.hid hside
                      clear hside haa
                      subst hbb
                      by_cases hqq : qi = qk
                      · subst hqq
                        go_wp2_with fail
                        go_quiet (fail)
                        go_wp2_with fail
                        go_roundw
                        case rel => exact ⟨k + 1, by omega, by go_num, q, fl, rfl, HBx.out.drewN _, below_dn _ HB.out, HSo.out, HLe.out, fun e => ⟨(HFa.out e).1, fun y hy e2 => by
                          by_cases ey : y = k
                          · subst ey; rw [HQI.out, HQK.out]
                          · exact (HFa.out e).2 y (by omega) e2⟩, HLt.out⟩
                        case measure => simp [intOf]; omega
                      · skip
                        have hstep := HSo.out.step hlt (show k < n by omega) (HSide.out)
                        have hlow := low2_lt hlt (show k < n by omega) (show q i ≠ q k by rw [HQI.out, HQK.out]; exact hqq)
                        have HStep := Lib.hid hstep
                        have HLow := Lib.hid hlow
                        clear hstep hlow
                        have hne : (qi != qk) = true := by rw [bne_iff_ne]; exact hqq
                        have hne3 : ((qi : Int) != (qk : Int)) = true := by rw [bne_iff_ne]; omega
                        have hne2 : (qi == qk) = false := by rw [beq_eq_false_iff_ne]; exact hqq
                        rcases Nat.lt_or_gt_of_ne hqq with hlt2 | hlt2
                        · have hlt3 : (qi : Int) < (qk : Int) := by omega
                          have hmn : min (qi : Int) (qk : Int) = (qi : Int) := by omega
                          have hl2 : low2 q i k = upd (upd q i qi) k qi := by unfold low2; rw [HQI.out, HQK.out, Nat.min_eq_left (by omega)]
                          have HL2 := Lib.hid hl2
                          clear hqq hl2
                          go_wp2_with fail
                          go_quiet (fail)
                          go_wp2_with fail
                          go_quiet (fail)
                          go_wp2_with fail
                          go_roundw
                          case rel =>
                            have hbx2 : ∀ nq, Box (((wr.drewN nq).setCell ⟨w.heap.size, i, none⟩ (.int .i64 (qi : Int))).setCell ⟨w.heap.size, k, none⟩ (.int .i64 (qi : Int))) w.heap.size (vec n (zf (low2 q i k))) 3 := fun nq => by
                              have h := ((HBx.out.drewN nq).setv i (qi : Int)).setv k (qi : Int)
                              rw [zf_upd, zf_upd, ← HL2.out] at h
                              exact h
                            exact ⟨k + 1, by omega, by go_num, low2 q i k, true, rfl, hbx2 _, ((below_dn _ HB.out).setCell (by simp) _).setCell (by simp) _, HStep.out, by have h1 := HLow.out; have h2 := HLe.out; omega, (fun h => by cases h), fun _ => by have h1 := HLow.out; have h2 := HLe.out; omega⟩
                          case measure => simp [intOf]; omega
                        · have hlt3 : (qk : Int) < (qi : Int) := by omega
                          have hmn : min (qi : Int) (qk : Int) = (qk : Int) := by omega
                          have hl2 : low2 q i k = upd (upd q i qk) k qk := by unfold low2; rw [HQI.out, HQK.out, Nat.min_eq_right (by omega)]
                          have HL2 := Lib.hid hl2
                          clear hqq hl2
                          go_wp2_with fail
                          go_quiet (fail)
                          go_wp2_with fail
                          go_quiet (fail)
                          go_wp2_with fail
                          go_roundw
                          case rel =>
                            have hbx2 : ∀ nq, Box (((wr.drewN nq).setCell ⟨w.heap.size, i, none⟩ (.int .i64 (qk : Int))).setCell ⟨w.heap.size, k, none⟩ (.int .i64 (qk : Int))) w.heap.size (vec n (zf (low2 q i k))) 3 := fun nq => by
                              have h := ((HBx.out.drewN nq).setv i (qk : Int)).setv k (qk : Int)
                              rw [zf_upd, zf_upd, ← HL2.out] at h
                              exact h
                            exact ⟨k + 1, by omega, by go_num, low2 q i k, true, rfl, hbx2 _, ((below_dn _ HB.out).setCell (by simp) _).setCell (by simp) _, HStep.out, by have h1 := HLow.out; have h2 := HLe.out; omega, (fun h => by cases h), fun _ => by have h1 := HLow.out; have h2 := HLe.out; omega⟩
                          case measure => simp [intOf]; omega
                    · have hnb : (bi == bk) = false := by rw [beq_eq_false_iff_ne]; exact hbb
                      have hnb2 : ((bi : Int) == (bk : Int)) = false := by rw [beq_eq_false_iff_ne]; omega
                      have HNo : Hid (¬ (a i = a k ∨ b i = b k)) := Lib.hid (fun h => by rw [HAI.out, HAK.out, HBI.out, HBK.out] at h; exact h.elim haa hbb)
                      clear haa hbb
                      go_wp2_with fail
                      go_quiet (fail)
                      go_wp2_with fail
                      go_roundw
                      case rel => exact ⟨k + 1, by omega, by go_num, q, fl, rfl, HBx.out.drewN _, below_dn _ HB.out, HSo.out, HLe.out, fun e => ⟨(HFa.out e).1, fun y hy e2 => by
                        by_cases ey : y = k
                        · subst ey; exact absurd e2 HNo.out
                        · exact (HFa.out e).2 y (by omega) e2⟩, HLt.out⟩
                      case measure => simp [intOf]; omega
                · have e : k = i := by omega
                  subst e
                  clear hki
                  go_wp2_with fail
                  go_roundw
                  case rel => exact ⟨k + 1, by omega, by go_num, q, fl, rfl, HBx.out, HB.out, HSo.out, HLe.out, fun e => (HFa.out e).1.step (HFa.out e).2, HLt.out⟩
                  case measure => simp [intOf]; omega
            · have e : i = n := by omega
              subst e
              clear hlt
              go_wp2_with fail
              go_roundw
              case rel => exact ⟨q, fl, rfl, HBx.out, HB.out, HSo.out, HFa.out⟩
              case measure =>
                have h1 := sumW_box HBx.out
                have h2 := sumW_box HBx0.out
                have h3 := HS0.out
                have h4 := HLe.out
                have h5 := HLt.out
                unfold gm
                rw [h1, h2, h3]
                cases fl with
                | true => have := h5 rfl; simp; omega
                | false => simp; omega
theorem rjoin_good (n : Nat) (f g : Nat → Int) (hf : Good n f) (hg : Good n g) (o p : Option Addr) (cap cap' : Nat) (w : World) (hL : Lz w o n f) (hL' : Lz w p n g) : Calls Try.prog 30 #[.slice o n cap, .slice p n cap'] w (JRes n (nat f) (nat g) w) := by
  have H := Lib.hid (both_any n n f g o p cap cap' w hL hL')
  rw [(pcd2_zero n f n g).2 ⟨hf, hg, rfl⟩] at H
  have HG := Lib.hid (glue_any n f g hf hg o p cap cap' w hL hL')
  clear hL hL' hf hg
  go_enter Try.func30, Try.ntmps30
  go_wp2_with fail
  refine H.out.mono ?_
  rintro e w' ⟨rfl, rfl⟩
  go_wp2_with fail
  refine HG.out.mono ?_
  rintro e w1 ⟨m, hm, q, c, rfl, hl, hb⟩
  have HM := Lib.hid hm
  have HLL := Lib.hid hl
  have HBB := Lib.hid hb
  clear hm hl hb
  go_wp2_with fail
  go_ret2
  exact ⟨m, HM.out, _, _, rfl, HLL.out, HBB.out⟩
theorem rjoin_bad (n m : Nat) (f g : Nat → Int) (c : Int) (hc : pcd2 n f m g = c) (h0 : c ≠ 0) (o p : Option Addr) (cap cap' : Nat) (w : World) (hL : Lz w o n f) (hL' : Lz w p m g) : Calls Try.prog 30 #[.slice o n cap, .slice p m cap'] w (PRes 0 (fun _ => 0) c w) := by
  have H := Lib.hid (both_any n m f g o p cap cap' w hL hL')
  rw [hc] at H
  have h1 : (c != 0) = true := by rw [bne_iff_ne]; exact h0
  clear hL hL' hc h0
  go_enter Try.func30, Try.ntmps30
  go_wp2_with fail
  refine H.out.mono ?_
  rintro e w' ⟨rfl, rfl⟩
  go_wp2_with fail
  go_ret2
  exact ⟨_, _, rfl, Lz.nil, Below.refl _ _⟩
theorem rmeet_bad (n m : Nat) (f g : Nat → Int) (c : Int) (hc : pcd2 n f m g = c) (h0 : c ≠ 0) (o p : Option Addr) (cap cap' : Nat) (w : World) (hL : Lz w o n f) (hL' : Lz w p m g) : Calls Try.prog 28 #[.slice o n cap, .slice p m cap'] w (PRes 0 (fun _ => 0) c w) := by
  have H := Lib.hid (both_any n m f g o p cap cap' w hL hL')
  rw [hc] at H
  have h1 : (c != 0) = true := by rw [bne_iff_ne]; exact h0
  clear hL hL' hc h0
  go_enter Try.func28, Try.ntmps28
  go_wp2_with fail
  refine H.out.mono ?_
  rintro e w' ⟨rfl, rfl⟩
  go_wp2_with fail
  go_ret2
  exact ⟨_, _, rfl, Lz.nil, Below.refl _ _⟩

theorem rmeet_good (n : Nat) (f g : Nat → Int) (hf : Good n f) (hg : Good n g) (o p : Option Addr) (cap cap' : Nat) (w : World) (hL : Lz w o n f) (hL' : Lz w p n g) : Calls Try.prog 28 #[.slice o n cap, .slice p n cap'] w (PRes n (meetf f g) 0 w) := by
  have H := Lib.hid (both_any n n f g o p cap cap' w hL hL')
  rw [(pcd2_zero n f n g).2 ⟨hf, hg, rfl⟩] at H
  have HM := Lib.hid (cut_any n hf.1 f g o p cap cap' w hL hL')
  clear hL hL' hf hg
  go_enter Try.func28, Try.ntmps28
  go_wp2_with fail
  refine H.out.mono ?_
  rintro e w' ⟨rfl, rfl⟩
  go_wp2_with fail
  refine HM.out.mono ?_
  rintro e w1 ⟨q, c, rfl, hl, hb⟩
  have HLL := Lib.hid hl
  have HBB := Lib.hid hb
  clear hl hb
  go_wp2_with fail
  go_ret2
  exact ⟨_, _, rfl, HLL.out, HBB.out⟩
theorem rof_many (n : Nat) (hn : 65536 < n) (o : Option Addr) (cap : Nat) (w : World) : Calls Try.prog 21 #[.slice o n cap] w (PRes 0 (fun _ => 0) 5 w) := by
  have hi : (65536 : Int) < (n : Int) := by omega
  clear hn
  go_enter Try.func21, Try.ntmps21
  go_wp2_with fail
  go_ret2
  exact ⟨_, _, rfl, Lz.nil, Below.refl _ _⟩
theorem rof_okn (n : Nat) (hn : n ≤ 65536) (f : Nat → Int) (o : Option Addr) (cap : Nat) (w : World) (hL : Lz w o n f) : Calls Try.prog 21 #[.slice o n cap] w (PRes n (labf f) 0 w) := by
  have hi : (n : Int) ≤ 65536 := by omega
  have HM := Lib.hid (rlabels_any n hn f o cap w hL)
  clear hL
  go_enter Try.func21, Try.ntmps21
  go_wp2_with fail
  refine HM.out.mono ?_
  rintro e w1 ⟨q, c, rfl, hl, hb⟩
  have HLL := Lib.hid hl
  have HBB := Lib.hid hb
  clear hl hb
  go_wp2_with fail
  go_ret2
  exact ⟨_, _, rfl, HLL.out, HBB.out⟩
theorem rrefine_bad (n m : Nat) (f g : Nat → Int) (c : Int) (hc : pcd n f = c) (h0 : c ≠ 0) (o p : Option Addr) (cap cap' : Nat) (w : World) (hL : Lz w o n f) : Calls Try.prog 32 #[.slice o n cap, .slice p m cap'] w (PRes 0 (fun _ => 0) c w) := by
  have H := Lib.hid (rcheck_any n f o cap w hL)
  rw [hc] at H
  have h1 : (c != 0) = true := by rw [bne_iff_ne]; exact h0
  clear hL hc h0
  go_enter Try.func32, Try.ntmps32
  go_wp2_with fail
  refine H.out.mono ?_
  rintro e w' ⟨rfl, rfl⟩
  go_wp2_with fail
  go_ret2
  exact ⟨_, _, rfl, Lz.nil, Below.refl _ _⟩
theorem rrefine_shape (n m : Nat) (f g : Nat → Int) (hf : Good n f) (hnm : m ≠ n) (o p : Option Addr) (cap cap' : Nat) (w : World) (hL : Lz w o n f) : Calls Try.prog 32 #[.slice o n cap, .slice p m cap'] w (PRes 0 (fun _ => 0) 15 w) := by
  have H := Lib.hid (rcheck_any n f o cap w hL)
  rw [(pcd_zero n f).2 hf] at H
  have h1 : (m == n) = false := by simpa using hnm
  have h2 : ((m : Int) != (n : Int)) = true := by rw [bne_iff_ne]; omega
  clear hL hf hnm
  go_enter Try.func32, Try.ntmps32
  go_wp2_with fail
  refine H.out.mono ?_
  rintro e w' ⟨rfl, rfl⟩
  go_wp2_with fail
  go_ret2
  exact ⟨_, _, rfl, Lz.nil, Below.refl _ _⟩
theorem rrefine_good (n : Nat) (f g : Nat → Int) (hf : Good n f) (o p : Option Addr) (cap cap' : Nat) (w : World) (hL : Lz w o n f) (hL' : Lz w p n g) : Calls Try.prog 32 #[.slice o n cap, .slice p n cap'] w (PRes n (meetf f g) 0 w) := by
  have H := Lib.hid (rcheck_any n f o cap w hL)
  rw [(pcd_zero n f).2 hf] at H
  have HM := Lib.hid (cut_any n hf.1 f g o p cap cap' w hL hL')
  clear hL hL' hf
  go_enter Try.func32, Try.ntmps32
  go_wp2_with fail
  refine H.out.mono ?_
  rintro e w' ⟨rfl, rfl⟩
  go_wp2_with fail
  refine HM.out.mono ?_
  rintro e w1 ⟨q, c, rfl, hl, hb⟩
  have HLL := Lib.hid hl
  have HBB := Lib.hid hb
  clear hl hb
  go_wp2_with fail
  go_ret2
  exact ⟨_, _, rfl, HLL.out, HBB.out⟩
end Go.Proofs.Ytbkmcibibppjeaa
