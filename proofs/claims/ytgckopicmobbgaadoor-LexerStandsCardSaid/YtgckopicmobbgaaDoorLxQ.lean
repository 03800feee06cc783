/- Excerpt. -/
import Derived.Test.YtgckopicmobbgaaDoorLxP
import Derived.WalkKit
import Derived.WalkSpells
import Derived.WalkLawsBesides
import Derived.Handy
import Derived.Deep.QuietTactic
import Derived.BigQuiet
import Derived.Outline
import Derived.Laws.BitsAllLaws
import Derived.IntWalk
import Derived.Lib.SmallJoins
import Derived.Lib.Hide
import Derived.Deep.DeepCutAuto
import Derived.LoopTactic
import Derived.Deep.RegionWith
import Derived.Lib.ConvBytes
import Derived.OwnWalk
import Derived.Laws.MakeOwn
import Derived.Laws.IdiomStrings
namespace Go.Proofs.YtgckopicmobbgaaDoor
set_option linter.unusedVariables false
set_option linter.unusedSimpArgs false
open Go.RowKit Lex

theorem mk_app (a c : List Nat) : mk (a ++ c) = mk a ++ mk c := by
  apply ByteArray.ext
  rw [ByteArray.data_append]
  simp [mk]
/-- The bytes, the first i of them marked. -/
def pmk (P : List Nat) (i : Nat) : List Nat := (P.take i).map mark1 ++ P.drop i
theorem pmk_len (P : List Nat) (i : Nat) : (pmk P i).length = P.length := by
  unfold pmk
  rw [List.length_append, List.length_map, List.length_take, List.length_drop]
  omega
theorem pmk_at (P : List Nat) {i j : Nat} (hi : i ≤ P.length) (hj : j < P.length) : (pmk P i).getD j 0 = if j < i then mark1 (P.getD j 0) else P.getD j 0 := by
  unfold pmk
  rw [List.getD_eq_getElem?_getD, List.getElem?_append, List.length_map, List.length_take]
  by_cases h : j < i
  · rw [if_pos (by omega), if_pos h, List.getElem?_map, List.getElem?_take, if_pos h, List.getElem?_eq_getElem hj, List.getD_eq_getElem?_getD, List.getElem?_eq_getElem hj]
    rfl
  · rw [if_neg (by omega), if_neg h, List.getElem?_drop, show i + (j - min i P.length) = j by omega, List.getD_eq_getElem?_getD]
theorem pmk_all (P : List Nat) : pmk P P.length = P.map mark1 := by
  unfold pmk
  rw [List.take_length, List.drop_length, List.append_nil]
theorem cut_p (s : ByteArray) (hs : s.size < 4294967281) (w : World) (hm : ∃ m, w.cell? ⟨2, 0, none⟩ = some (.int .i64 m)) : Calls Tryd.prog 34 #[.string s, .string { data := #[10] }] w fun e w' => ∃ v2 v3, e = .returned (.tuple #[.string (mk ((bl s).take (hdN ne10 (bl s)))), v2, v3]) ∧ ∃ n, w' = w.drewN n := by
  obtain ⟨m, hm⟩ := hm
  refine (Tryd.strings_Cut s { data := #[10] } m w hs hm).mono ?_
  rintro e w' ⟨rfl, h⟩
  exact ⟨_, _, by rw [← cut_lf s], h⟩
theorem below_dnk {B : Nat} {w W : World} (n : Nat) (h : Below B w W) : Below B w (W.drewN n) := ⟨h.os, h.tape, h.output, h.size, h.block⟩
def ExcRes (t : List Nat) (c : Int) (w : World) (e : Ending) (w' : World) : Prop := e = .returned (.tuple #[.string (mk t), .int .i64 c]) ∧ Below w.heap.size w w'
set_option maxRecDepth 100000 in
theorem exc_bad (s : ByteArray) (at0 : Int) (c : Int) (hc : c ≠ 0) (w : World) (hP : Calls Tryd.prog 25 #[.string s, .int .i64 at0] w (PosRes 0 0 c w)) : Calls Tryd.prog 29 #[.string s, .int .i64 at0] w (ExcRes [] c w) := by
  have HP := Lib.hid hP
  have hc1 : (c != 0) = true := by simpa using hc
  clear hP
  go_enter Tryd.func29, Tryd.ntmps29
  go_wp2_with fail
  refine HP.out.mono ?_
  rintro e w' ⟨rfl, rfl⟩
  go_wp2_with fail
  go_ret2
  exact ⟨rfl, Below.refl _ _⟩
set_option maxRecDepth 100000 in
set_option maxHeartbeats 1000000 in
theorem exc_ok (s : ByteArray) (hs : s.size ≤ 65536) (k : Nat) (hk : k ≤ s.size) (w : World) (hm : ∃ m, w.cell? ⟨2, 0, none⟩ = some (.int .i64 m)) : Calls Tryd.prog 29 #[.string s, .int .i64 (k : Int)] w (ExcRes (excL (bl s) k) 0 w) := by
  have HP := Lib.hid (pos_ok s hs k hk w)
  have hbd := lcF_bound ((bl s).take k)
  have hlk : ((bl s).take k).length = k := by rw [List.length_take, bl_len]; omega
  rw [hlk] at hbd
  obtain ⟨ln, hln⟩ : ∃ ln, (lcF ((bl s).take k)).1 = ln := ⟨_, rfl⟩
  rw [hln] at HP
  have hex : excL (bl s) k = ((bl s).drop (k + 1 - (lcF ((bl s).take k)).2)).take (hdN ne10 ((bl s).drop (k + 1 - (lcF ((bl s).take k)).2))) ++ [10] ++ ((((bl s).drop (k + 1 - (lcF ((bl s).take k)).2)).take ((lcF ((bl s).take k)).2 - 1)).map mark1) ++ [94] := rfl
  obtain ⟨C, hC⟩ : ∃ C, (lcF ((bl s).take k)).2 = C := ⟨_, rfl⟩
  rw [hC] at HP hbd hex
  obtain ⟨st, hst⟩ : ∃ st, k + 1 - C = st := ⟨_, rfl⟩
  rw [hst] at hex
  have hi1 : (k : Int) - (C : Int) + 1 = (st : Int) := by omega
  have hst2 : st ≤ k := by omega
  have hst3 : (st : Int) ≤ (k : Int) := by omega
  have hst4 : (st : Int) ≤ (s.size : Int) := by omega
  have hk3 : (k : Int) ≤ (s.size : Int) := by omega
  have hD : bl (s.extract st s.size) = (bl s).drop st := by rw [bl_extract, List.take_of_length_le (by rw [List.length_drop, bl_len]; exact Nat.le_refl _)]
  have hP2 : bl (s.extract st k) = ((bl s).drop st).take (C - 1) := by rw [bl_extract, show k - st = C - 1 by omega]
  have hPs : (s.extract st k).size = C - 1 := by rw [ByteArray.size_extract]; omega
  obtain ⟨m, hm⟩ := hm
  have HCut := Lib.hid (cut_p (s.extract st s.size) (by rw [ByteArray.size_extract]; omega) w ⟨m, hm⟩)
  rw [hD] at HCut
  obtain ⟨lb, hlb⟩ : ∃ lb, ((bl s).drop st).take (hdN ne10 ((bl s).drop st)) = lb := ⟨_, rfl⟩
  obtain ⟨P, hPP⟩ : ∃ P, ((bl s).drop st).take (C - 1) = P := ⟨_, rfl⟩
  rw [hlb, hPP] at hex
  rw [hlb] at HCut
  rw [hPP] at hP2
  have hPl : P.length = C - 1 := by rw [← hP2, bl_len, hPs]
  have hP256 : ∀ x ∈ P, x < 256 := fun x hx => bl_lt (s.extract st k) x (by rw [hP2]; exact hx)
  have hlbl : lb.length ≤ 65536 := by rw [← hlb, List.length_take, List.length_drop, bl_len]; omega
  have hN : C - 1 ≤ 65536 := by omega
  obtain ⟨N, hNN⟩ : ∃ N, C - 1 = N := ⟨_, rfl⟩
  rw [hNN] at hPl hPs hN
  rw [hex]
  obtain ⟨t, ht⟩ : ∃ t, s.extract st k = t := ⟨_, rfl⟩
  rw [ht] at hP2 hPs
  have HConv := Lib.hid (fun V => conv_mb t V)
  rw [hPs, hP2] at HConv
  have HPl := Lib.hid hPl
  have H256 := Lib.hid hP256
  have HLb := Lib.hid hlbl
  have hC1 : (1 : Int) ≤ (C : Int) := by omega
  have hC2 : (C : Int) ≤ (k : Int) + 1 := by omega
  have hk65 : (k : Int) ≤ 65536 := by omega
  clear hm hex hD hP2 hPs hlb hPP hPl hP256 hlbl hln hC hst hNN hlk hbd
  go_enter Tryd.func29, Tryd.ntmps29
  go_wp2_with fail
  refine HP.out.mono ?_
  rintro e w' ⟨rfl, rfl⟩
  go_wp2_with fail
  refine HCut.out.mono ?_
  rintro e W1 ⟨v2, v3, rfl, d, rfl⟩
  obtain ⟨W2, cap, hcv, hb2, hmb⟩ := HConv.out (w.drewN d)
  have HB2 := Lib.hid hb2
  have HMb := Lib.hid hmb
  obtain ⟨M, hM⟩ : ∃ M, (w.drewN d).heap.size = M := ⟨_, rfl⟩
  rw [hM] at hcv HMb
  have HBw := Lib.hid (show Below w.heap.size w W2 from (below_dnk d (Below.refl _ _)).trans hb2)
  have HMw := Lib.hid (show w.heap.size ≤ M by rw [← hM]; exact Nat.le_refl _)
  clear hb2 hmb hM HB2
  go_wp2_with fail
  go_loopw [45] (fun j wr => ∃ i : Nat, i ≤ N ∧ j = .int .i64 (i : Int) ∧ Mb wr M N (pmk P i) ∧ Below M W2 wr) (fun j _ => N - (intOf j).toNat)
  case atStart => exact ⟨0, by omega, by first | trivial | rfl, HMb.out, Below.refl _ _⟩
  case round =>
    obtain ⟨i, hi, rfl, hmb, hbe⟩ := hrel
    by_cases hlt : i < N
    · have hi1 : (i : Int) < (N : Int) := by omega
      have hc := hmb.cell hlt
      have hf := hmb.open_ hlt
      have hiP : i < P.length := by rw [HPl.out]; exact hlt
      have hx := pmk_at P (i := i) (j := i) (by omega) hiP
      rw [if_neg (Nat.lt_irrefl _)] at hx
      rw [hx] at hc
      have hstep : ∀ j, j < N → (pmk P (i + 1)).getD j 0 = if j = i then mark1 (P.getD i 0) else (pmk P i).getD j 0 := fun j hj => by
        have hjP : j < P.length := by rw [HPl.out]; exact hj
        rw [pmk_at P (by omega) hjP, pmk_at P (by omega) hjP]
        by_cases e : j = i
        · subst e
          rw [if_pos (by omega), if_pos rfl]
        · rw [if_neg e]
          by_cases h : j < i
          · rw [if_pos (by omega), if_pos h]
          · rw [if_neg (by omega), if_neg h]
      obtain ⟨x, hxx⟩ : ∃ x, P.getD i 0 = x := ⟨_, rfl⟩
      rw [hxx] at hc hstep hx
      have HBe := Lib.hid hbe
      by_cases h9 : x = 9
      · have HM2 := Lib.hid (hmb.same (Q := pmk P (i + 1)) fun j hj => by
          rw [hstep j hj]
          by_cases e : j = i
          · rw [if_pos e, e, hx, h9]; rfl
          · rw [if_neg e])
        subst h9
        clear hstep hx hxx hiP hmb hbe
        go_wp2_with fail
        go_roundw
        case rel => exact ⟨i + 1, by omega, by go_num, HM2.out, HBe.out⟩
        case measure => simp [intOf]; omega
      · have HM2 := Lib.hid (hmb.set (Q := pmk P (i + 1)) i 32 fun j hj => by
          rw [hstep j hj]
          by_cases e : j = i
          · rw [if_pos e, if_pos e]; unfold mark1; rw [if_neg h9]
          · rw [if_neg e, if_neg e])
        have HMl := Lib.hid hmb.lt
        have h91 : ((x : Int) != 9) = true := by rw [bne_iff_ne]; omega
        have h92 : ¬ (x : Int) = 9 := by omega
        clear hstep hx hxx hiP hmb hbe h9
        go_wp2_with fail
        go_roundw
        case rel => exact ⟨i + 1, by omega, by go_num, HM2.out, HBe.out.setCell (p := ⟨M, i, none⟩) (Nat.le_refl _) _⟩
        case measure => simp [intOf]; omega
    · obtain rfl : i = N := by omega
      have hback := back_mb hmb (by rw [pmk_len, HPl.out]) (fun x hx => by
        have h := H256.out
        rw [← HPl.out, pmk_all] at hx
        obtain ⟨y, hy, rfl⟩ := List.mem_map.1 hx
        unfold mark1
        split <;> omega) cap
      have hall := pmk_all P
      rw [HPl.out] at hall
      rw [hall] at hback
      have HB3 := Lib.hid (HBw.out.trans (hbe.mono HMw.out))
      have hs1 : (mk lb).size ≤ 65536 := by rw [mk_size]; exact HLb.out
      have hs2 : (mk (P.map mark1)).size ≤ 65536 := by rw [mk_size, List.length_map, HPl.out]; exact hN
      have HEq := Lib.hid (show mk (lb ++ [10] ++ P.map mark1 ++ [94]) = mk lb ++ mk [10] ++ mk (P.map mark1) ++ mk [94] by rw [mk_app, mk_app, mk_app])
      obtain ⟨a, ha⟩ : ∃ a, mk lb = a := ⟨_, rfl⟩
      obtain ⟨c, hcc⟩ : ∃ c, mk (P.map mark1) = c := ⟨_, rfl⟩
      rw [ha, hcc] at HEq
      rw [ha] at hs1 ⊢
      rw [hcc] at hs2 hback
      clear hmb hbe hall hlt ha hcc
      go_wp2_with fail
      go_ret2
      exact ⟨by rw [HEq.out]; rfl, HB3.out⟩

end Go.Proofs.YtgckopicmobbgaaDoor
