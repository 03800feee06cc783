/- next: the token at a place. -/
import Derived.Test.YtgckopicmobbgaaDoorLxD
import Derived.WalkKit
import Derived.WalkSpells
import Derived.WalkLawsBesides
import Derived.Handy
import Derived.Deep.QuietTactic
import Derived.BigQuiet
import Derived.Outline
import Derived.Laws.BitsAllLaws
import Derived.IntWalk
import Derived.Lib.SmallJoins
import Derived.Lib.Hide
import Derived.Deep.DeepCutAuto
import Derived.LoopTactic
import Derived.Deep.RegionWith
import Derived.Lib.ConvBytes
namespace Go.Proofs.YtgckopicmobbgaaDoor
set_option linter.unusedVariables false
set_option linter.unusedSimpArgs false
open Go.RowKit Lex

theorem pfx_eq : ∀ (p l : List UInt8), Lib.hasPrefix l p = pfx (p.map (·.toNat)) (l.map (·.toNat))
  | [], l => by simp [Lib.hasPrefix, pfx]
  | a :: x, [] => by simp [Lib.hasPrefix, pfx]
  | a :: x, c :: y => by
    have ih := pfx_eq x y
    unfold Lib.hasPrefix at ih ⊢
    simp only [List.map_cons, pfx]
    rw [← ih]
    have e : ((a :: x).isPrefixOf (c :: y)) = ((a == c) && x.isPrefixOf y) := rfl
    rw [e]
    congr 1
    rw [Bool.eq_iff_iff]
    simp [UInt8.toNat_inj]
theorem hasprefix_p (s p : ByteArray) (w : World) : Calls Tryd.prog 70 #[.string s, .string p] w fun e w' => e = .returned (.bool (pfx (bl p) (bl s))) ∧ w = w' := by
  refine (Tryd.strings_HasPrefix s p w).mono ?_
  rintro e w' ⟨rfl, rfl⟩
  exact ⟨by rw [pfx_eq]; rfl, rfl⟩
/-- A table of strings: what a package variable holds. -/
structure StrTab (w : World) (g : Nat) (l : List (List Nat)) : Prop where
  lt : g < w.heap.size
  row : ∃ b off cap, w.cell? ⟨g, 0, none⟩ = some (.slice (some ⟨b, off, none⟩) l.length cap) ∧ b < w.heap.size ∧ ∀ i, i < l.length → w.cell? ⟨b, off + i, none⟩ = some (.string (mk (l.getD i [])))
theorem StrTab.below {w W : World} {g : Nat} {l : List (List Nat)} (h : StrTab w g l) (hb : Below w.heap.size w W) : StrTab W g l := by
  obtain ⟨b, off, cap, h1, h2, h3⟩ := h.row
  exact ⟨Nat.lt_of_lt_of_le h.lt hb.size, b, off, cap, (hb.cell (p := ⟨g, 0, none⟩) h.lt).trans h1, Nat.lt_of_lt_of_le h2 hb.size, fun i hi => (hb.cell (p := ⟨b, off + i, none⟩) h2).trans (h3 i hi)⟩
/-- A token as a value. -/
def tokV (k : Nat) (t : List Nat) (p : Nat) : Value := .agg #[.int .i64 (k : Int), .string (mk t), .int .i64 (p : Int)]
/-- What next answers. -/
def nres (D : List Nat) (p : Nat) : Value :=
  if (nxt D).2.2.2 = 0 then .tuple #[tokV (nxt D).1 (D.take (nxt D).2.1) p, .int .i64 0, .int .i64 0]
  else .tuple #[tokV 0 [] 0, .int .i64 ((p + (nxt D).2.2.1 : Nat) : Int), .int .i64 ((nxt D).2.2.2 : Int)]
theorem nres_ok {D : List Nat} {p k n : Nat} (h : nxt D = (k, n, 0, 0)) : nres D p = .tuple #[tokV k (D.take n) p, .int .i64 0, .int .i64 0] := by unfold nres; rw [h]; rfl
theorem nres_bad {D : List Nat} {p o c : Nat} (h : nxt D = (0, 0, o, c)) (hc : c ≠ 0) : nres D p = .tuple #[tokV 0 [] 0, .int .i64 ((p + o : Nat) : Int), .int .i64 (c : Int)] := by unfold nres; rw [h]; exact if_neg hc
theorem sg_drop {i : Nat} (h : i < 13) : sgT.drop i = sgT.getD i [] :: sgT.drop (i + 1) := by
  obtain rfl | rfl | rfl | rfl | rfl | rfl | rfl | rfl | rfl | rfl | rfl | rfl | rfl : i = 0 ∨ i = 1 ∨ i = 2 ∨ i = 3 ∨ i = 4 ∨ i = 5 ∨ i = 6 ∨ i = 7 ∨ i = 8 ∨ i = 9 ∨ i = 10 ∨ i = 11 ∨ i = 12 := by omega
  all_goals rfl
theorem sg_256 {i : Nat} (h : i < 13) : ∀ c ∈ sgT.getD i [], c < 256 := by
  have key : ∀ i : Fin 13, ∀ c ∈ sgT.getD i.val [], c < 256 := by decide
  exact key ⟨i, h⟩
def NextRes (v : Value) (w : World) (e : Ending) (w' : World) : Prop := e = .returned v ∧ Below w.heap.size w w'

set_option maxRecDepth 100000 in
set_option maxHeartbeats 2000000 in
/-- No word at the place: a sign, or an error. -/
theorem next_sign (s : ByteArray) (hs : s.size ≤ 1000000) (at0 : Nat) (hat : at0 < s.size) (w : World) (hT : StrTab w 1 sgT) (h0 : hdN isWrd ((bl s).drop at0) = 0) : Calls Tryd.prog 40 #[.string s, .int .i64 (at0 : Int)] w (NextRes (nres ((bl s).drop at0) at0) w) := by
  have hD : bl (s.extract at0 s.size) = (bl s).drop at0 := by rw [bl_extract, List.take_of_length_le (by rw [List.length_drop, bl_len]; exact Nat.le_refl _)]
  have hsz : (s.extract at0 s.size).size ≤ 1000000 := by rw [ByteArray.size_extract]; omega
  have HRw := Lib.hid (run_wrd _ hsz)
  have HPx := Lib.hid (fun p w => hasprefix_p (s.extract at0 s.size) p w)
  rw [hD] at HRw HPx
  have hDl : ((bl s).drop at0).length = s.size - at0 := by rw [List.length_drop, bl_len]
  have hDc := bl_drop hat
  have hc256 := s[at0].toNat_lt
  obtain ⟨c, hcc⟩ : ∃ c, s[at0].toNat = c := ⟨_, rfl⟩
  rw [hcc] at hDc hc256
  have hwd := ext_mk s at0 (at0 + hdN isWrd ((bl s).drop at0))
  rw [Nat.add_sub_cancel_left] at hwd
  have hle := hdN_le isWrd ((bl s).drop at0)
  rw [h0] at HRw hwd
  have hfind := sgn_find ((bl s).drop at0)
  have hnx : nxt ((bl s).drop at0) = if sgnN ((bl s).drop at0) = 0 then (0, 0, 0, 4) else (2, sgnN ((bl s).drop at0), 0, 0) := by unfold nxt; rw [if_pos h0]
  have hat1 : (at0 : Int) < (s.size : Int) := by omega
  have he : (s.extract at0 at0).toList.isEmpty = true := by rw [empty_iff, bl_extract, Nat.sub_self]; rfl
  obtain ⟨D, hDD⟩ : ∃ D, (bl s).drop at0 = D := ⟨_, rfl⟩
  rw [hDD] at HPx hfind hnx ⊢
  have HFind := Lib.hid hfind
  have HNx := Lib.hid hnx
  have HT := Lib.hid hT
  clear hD hDl hDc hwd hle h0 hfind hnx hDD hT hc256 hcc
  obtain ⟨bS, oS, cS, hg0, hbS, hSc⟩ := HT.out.row
  have hgl := HT.out.lt
  have HSc := Lib.hid hSc
  have h13 : sgT.length = 13 := rfl
  rw [h13] at hg0
  clear hSc h13
  go_enter Tryd.func40, Tryd.ntmps40
  go_wp2_with fail
  refine (HRw.out _).mono ?_
  rintro e w' ⟨rfl, rfl⟩
  go_wp2_with fail
  obtain ⟨F0, hF0⟩ : ∃ F0, sgT.find? (fun t => pfx t D) = F0 := ⟨_, rfl⟩
  have HF0 := Lib.hid hF0
  clear hF0
  go_loopw [25] (fun j wr => ∃ i : Nat, i ≤ 13 ∧ j = .int .i64 (i : Int) ∧ (sgT.drop i).find? (fun t => pfx t D) = F0 ∧ wr = w.alloc (.cells #[.int .i64 0, .string { data := #[] }, .int .i64 0] 32)) (fun j _ => 13 - (intOf j).toNat)
  case atStart => exact ⟨0, by omega, by first | trivial | rfl, by rw [List.drop_zero]; exact HF0.out, by first | rfl | trivial⟩
  case round =>
    obtain ⟨i, hi, rfl, hfnd, rfl⟩ := hrel
    have hbl := (Below.refl w.heap.size w).alloc (Nat.le_refl _) (.cells #[.int .i64 0, .string { data := #[] }, .int .i64 0] 32)
    by_cases hlt : i < 13
    · have hi1 : (i : Int) < 13 := by omega
      have hc1 := HSc.out i hlt
      have hdr := sg_drop hlt
      have h256 := sg_256 hlt
      obtain ⟨t, ht⟩ : ∃ t, sgT.getD i [] = t := ⟨_, rfl⟩
      rw [ht] at hc1 hdr h256
      rw [hdr, List.find?_cons] at hfnd
      have hpx := HPx.out (mk t)
      rw [bl_mk h256] at hpx
      have HPt := Lib.hid hpx
      cases hp : pfx t D with
      | true =>
        rw [hp] at HPt hfnd
        have e1 : F0 = some t := hfnd.symm
        have e2 := HFind.out
        rw [HF0.out, e1] at e2
        have hne : sgnN D ≠ 0 := by
          intro h
          rw [if_pos h] at e2
          cases e2
        rw [if_neg hne] at e2
        injection e2 with e2
        have hn := HNx.out
        rw [if_neg hne] at hn
        have hres : nres D at0 = .tuple #[tokV 2 t at0, .int .i64 0, .int .i64 0] := by rw [e2]; exact nres_ok hn
        have HRes := Lib.hid hres
        clear hdr h256 ht hfnd hpx hp e1 e2 hne hn hres HFind HNx HF0
        go_wp2_with fail
        refine (HPt.out _).mono ?_
        rintro e w' ⟨rfl, rfl⟩
        go_wp2_with fail
        exact bodyPost_ret (v := .tuple #[tokV 2 t at0, .int .i64 0, .int .i64 0]) (by simp [results, Tryd.results40, go_sem, tokV]) rfl ⟨congrArg Ending.returned HRes.out.symm, (Below.refl _ _).alloc (Nat.le_refl _) _⟩
      | false =>
        rw [hp] at HPt hfnd
        have HFn := Lib.hid hfnd
        clear hdr h256 ht hfnd hpx hp
        go_wp2_with fail
        refine (HPt.out _).mono ?_
        rintro e w' ⟨rfl, rfl⟩
        go_wp2_with fail
        go_roundw
        case rel => exact ⟨i + 1, by omega, by go_num, HFn.out, by first | rfl | trivial⟩
        case measure => simp [intOf]; omega
    · obtain rfl : i = 13 := by omega
      have e1 : F0 = none := by rw [← hfnd]; rfl
      have e2 := HFind.out
      rw [HF0.out, e1] at e2
      have hz : sgnN D = 0 := by
        rcases Nat.eq_zero_or_pos (sgnN D) with h | h
        · exact h
        · rw [if_neg (by omega)] at e2
          cases e2
      have hn := HNx.out
      rw [if_pos hz] at hn
      have hres : nres D at0 = .tuple #[tokV 0 [] 0, .int .i64 (at0 : Int), .int .i64 4] := nres_bad hn (by decide)
      have HRes := Lib.hid hres
      clear hfnd e1 e2 hz hn hres HFind HNx HF0 hlt
      go_wp2_with fail
      exact bodyPost_ret (v := .tuple #[tokV 0 [] 0, .int .i64 (at0 : Int), .int .i64 4]) (by simp [results, Tryd.results40, go_sem, tokV, mk]) rfl ⟨congrArg Ending.returned HRes.out.symm, (Below.refl _ _).alloc (Nat.le_refl _) _⟩

theorem nxt_word {D : List Nat} (h0 : 0 < hdN isWrd D) : nxt D = if isLet (D.headD 0) then (if 24 < hdN isWrd D then (0, 0, 0, 8) else (0, hdN isWrd D, 0, 0)) else if hdN isDig D < hdN isWrd D then (0, 0, hdN isDig D, 4) else if (valN 0 (D.take (hdN isWrd D))).isNone then (0, 0, 0, 2) else (1, hdN isWrd D, 0, 0) := by
  have h : ¬ hdN isWrd D = 0 := by omega
  show (if hdN isWrd D = 0 then _ else _) = _
  rw [if_neg h]
set_option maxRecDepth 100000 in
set_option maxHeartbeats 2000000 in
/-- A word at the place. -/
theorem next_word (s : ByteArray) (hs : s.size ≤ 1000000) (at0 : Nat) (hat : at0 < s.size) (w : World) (hT : StrTab w 1 sgT) (h0 : 0 < hdN isWrd ((bl s).drop at0)) : Calls Tryd.prog 40 #[.string s, .int .i64 (at0 : Int)] w (NextRes (nres ((bl s).drop at0) at0) w) := by
  have hD : bl (s.extract at0 s.size) = (bl s).drop at0 := by rw [bl_extract, List.take_of_length_le (by rw [List.length_drop, bl_len]; exact Nat.le_refl _)]
  have hsz : (s.extract at0 s.size).size ≤ 1000000 := by rw [ByteArray.size_extract]; omega
  have HRw := Lib.hid (run_wrd _ hsz)
  have HPx := Lib.hid (fun p w => hasprefix_p (s.extract at0 s.size) p w)
  rw [hD] at HRw HPx
  have hDl : ((bl s).drop at0).length = s.size - at0 := by rw [List.length_drop, bl_len]
  have hDc := bl_drop hat
  have hc256 := s[at0].toNat_lt
  obtain ⟨c, hcc⟩ : ∃ c, s[at0].toNat = c := ⟨_, rfl⟩
  rw [hcc] at hDc hc256
  have hwd := ext_mk s at0 (at0 + hdN isWrd ((bl s).drop at0))
  rw [Nat.add_sub_cancel_left] at hwd
  have hle := hdN_le isWrd ((bl s).drop at0)
  have hnx := nxt_word h0
  have hdt := dig_take ((bl s).drop at0)
  have hdw := dig_le_wrd ((bl s).drop at0)
  have hat1 : (at0 : Int) < (s.size : Int) := by omega
  obtain ⟨n, hn⟩ : ∃ n, hdN isWrd ((bl s).drop at0) = n := ⟨_, rfl⟩
  rw [hn] at h0 HRw hwd hle hnx hdt hdw
  rw [hDl] at hle
  have hhd : ((bl s).drop at0).headD 0 = c := by rw [hDc]; rfl
  rw [hhd] at hnx
  obtain ⟨D, hDD⟩ : ∃ D, (bl s).drop at0 = D := ⟨_, rfl⟩
  rw [hDD] at HPx hnx hwd hDc hdt hdw hDl ⊢
  have hD256 : ∀ x ∈ D.take n, x < 256 := fun x hx => bl_lt s x (List.mem_of_mem_drop (hDD ▸ List.mem_of_mem_take hx))
  obtain ⟨wd, hwdd⟩ : ∃ wd, s.extract at0 (at0 + n) = wd := ⟨_, rfl⟩
  have hblw : bl wd = D.take n := by rw [← hwdd, hwd]; exact bl_mk hD256
  have hwsz : wd.size = n := by rw [← bl_len, hblw, List.length_take, hDl]; omega
  have hwmk : mk (D.take n) = wd := by rw [← hblw]; exact mk_bl wd
  have hs0 : 0 < wd.size := by omega
  have hw0 : (wd[0]'hs0).toNat = c := by
    have h1 := bl_at (s := wd) (i := 0) hs0
    rw [hblw, hDc] at h1
    obtain ⟨m, rfl⟩ : ∃ m, n = m + 1 := ⟨n - 1, by omega⟩
    simp at h1
    exact h1.symm
  have he : wd.toList.isEmpty = false := by
    rw [empty_iff, hblw, hDc]
    obtain ⟨m, rfl⟩ : ∃ m, n = m + 1 := ⟨n - 1, by omega⟩
    rfl
  have hwl : wd.size ≤ 1000000 := by omega
  have HLt := Lib.hid (letter_p c hc256)
  have HDg := Lib.hid (run_dig wd hwl)
  have HNm := Lib.hid (isNumber_p wd hwl)
  rw [hblw, hdt] at HDg
  rw [hblw] at HNm
  have hnum : n ≤ hdN isDig D → numB (D.take n) = (valN 0 (D.take n)).isSome := fun hge => by
    unfold numB
    have h1 : (D.take n).length = n := by rw [List.length_take, hDl]; omega
    rw [hdt, h1, decide_eq_true (show hdN isDig D = n by omega)]
    rw [← hblw, ← empty_iff, he]
    rfl
  have hn1 : (at0 : Int) + (n : Int) ≤ (s.size : Int) := by omega
  have HNx := Lib.hid hnx
  have HNum := Lib.hid hnum
  have HMk := Lib.hid hwmk
  have HSz := Lib.hid hwsz
  clear hD hDl hDc hwd hle hnx hDD hT hc256 hcc HPx hn hhd hD256 hblw hdt hnum hwmk hwl
  cases hlt : isLet c with
  | true =>
    rw [hlt] at HLt
    have hnx := HNx.out
    rw [hlt, if_pos rfl] at hnx
    by_cases h24 : 24 < n
    · rw [if_pos h24] at hnx
      have HRes := Lib.hid (show nres D at0 = .tuple #[tokV 0 [] 0, .int .i64 (at0 : Int), .int .i64 8] from nres_bad hnx (by decide))
      have h24' : (24 : Int) < (wd.size : Int) := by omega
      clear hnx HNx HDg HNm HNum hlt h24 h0 hdw hwsz
      go_enter Tryd.func40, Tryd.ntmps40
      go_wp2_with fail
      refine (HRw.out _).mono ?_
      rintro e w' ⟨rfl, rfl⟩
      go_wp2_with fail
      refine (HLt.out _).mono ?_
      rintro e w' ⟨rfl, rfl⟩
      go_wp2_with fail
      exact bodyPost_ret (v := .tuple #[tokV 0 [] 0, .int .i64 (at0 : Int), .int .i64 8]) (by simp [results, Tryd.results40, go_sem, tokV, mk]) rfl ⟨congrArg Ending.returned HRes.out.symm, (Below.refl _ _).alloc (Nat.le_refl _) _⟩
    · rw [if_neg h24] at hnx
      have HRes := Lib.hid (nres_ok (p := at0) hnx)
      have h24' : ¬ (24 : Int) < (wd.size : Int) := by omega
      rw [show tokV 0 (D.take n) at0 = .agg #[.int .i64 0, .string wd, .int .i64 (at0 : Int)] by unfold tokV; rw [HMk.out]; rfl] at HRes
      clear hnx HNx HDg HNm HNum hlt h24 h0 hdw hwsz
      go_enter Tryd.func40, Tryd.ntmps40
      go_wp2_with fail
      refine (HRw.out _).mono ?_
      rintro e w' ⟨rfl, rfl⟩
      go_wp2_with fail
      refine (HLt.out _).mono ?_
      rintro e w' ⟨rfl, rfl⟩
      go_wp2_with fail
      exact bodyPost_ret (v := .tuple #[.agg #[.int .i64 0, .string wd, .int .i64 (at0 : Int)], .int .i64 0, .int .i64 0]) (by simp [results, Tryd.results40, go_sem]) rfl ⟨congrArg Ending.returned HRes.out.symm, (Below.refl _ _).alloc (Nat.le_refl _) _⟩
  | false =>
    rw [hlt] at HLt
    have hnx := HNx.out
    rw [hlt, if_neg (by decide)] at hnx
    obtain ⟨d, hd⟩ : ∃ d, hdN isDig D = d := ⟨_, rfl⟩
    rw [hd] at hnx hdw HDg
    have hnum := HNum.out
    rw [hd] at hnum
    by_cases hdl : d < n
    · rw [if_pos hdl] at hnx
      have HRes := Lib.hid (show nres D at0 = .tuple #[tokV 0 [] 0, .int .i64 ((at0 + d : Nat) : Int), .int .i64 4] from nres_bad hnx (by decide))
      have hdl' : (d : Int) < (wd.size : Int) := by omega
      have hbd : (at0 : Int) + (d : Int) ≤ 1000000 := by omega
      clear hnx HNx HNm HNum hnum hlt hdl h0 hdw hwsz hd
      go_enter Tryd.func40, Tryd.ntmps40
      go_wp2_with fail
      refine (HRw.out _).mono ?_
      rintro e w' ⟨rfl, rfl⟩
      go_wp2_with fail
      refine (HLt.out _).mono ?_
      rintro e w' ⟨rfl, rfl⟩
      go_wp2_with fail
      refine (HDg.out _).mono ?_
      rintro e w' ⟨rfl, rfl⟩
      go_wp2_with fail
      exact bodyPost_ret (v := .tuple #[tokV 0 [] 0, .int .i64 ((at0 + d : Nat) : Int), .int .i64 4]) (by simp [results, Tryd.results40, go_sem, tokV, mk]) rfl ⟨congrArg Ending.returned HRes.out.symm, (Below.refl _ _).alloc (Nat.le_refl _) _⟩
    · rw [if_neg hdl] at hnx
      have hm := hnum (by omega)
      rw [hm] at HNm
      have hdl' : ¬ (d : Int) < (wd.size : Int) := by omega
      cases hv : valN 0 (D.take n) with
      | none =>
        rw [hv] at hnx HNm
        have HRes := Lib.hid (show nres D at0 = .tuple #[tokV 0 [] 0, .int .i64 (at0 : Int), .int .i64 2] from nres_bad hnx (by decide))
        clear hnx HNx HNum hnum hlt hdl h0 hdw hwsz hd hm hv
        go_enter Tryd.func40, Tryd.ntmps40
        go_wp2_with fail
        refine (HRw.out _).mono ?_
        rintro e w' ⟨rfl, rfl⟩
        go_wp2_with fail
        refine (HLt.out _).mono ?_
        rintro e w' ⟨rfl, rfl⟩
        go_wp2_with fail
        refine (HDg.out _).mono ?_
        rintro e w' ⟨rfl, rfl⟩
        go_wp2_with fail
        refine (HNm.out _).mono ?_
        rintro e W2 ⟨rfl, hb⟩
        obtain ⟨hc, hf⟩ := bcell hb
        have hz : w.heap.size < W2.heap.size := by have := hb.size; simp at this; omega
        go_wp2_with fail
        exact bodyPost_ret (v := .tuple #[tokV 0 [] 0, .int .i64 (at0 : Int), .int .i64 2]) (by simp [results, Tryd.results40, go_sem, tokV, mk, hc, hf, hz]) rfl ⟨congrArg Ending.returned HRes.out.symm, (((((Below.refl w.heap.size w).alloc (Nat.le_refl _) _).trans (hb.mono (by simp))).setCell (p := ⟨w.heap.size, 0, none⟩) (Nat.le_refl _) _).setCell (p := ⟨w.heap.size, 1, none⟩) (Nat.le_refl _) _).setCell (p := ⟨w.heap.size, 2, none⟩) (Nat.le_refl _) _⟩
      | some v =>
        rw [hv] at hnx HNm
        have HRes := Lib.hid (nres_ok (p := at0) hnx)
        rw [show tokV 1 (D.take n) at0 = .agg #[.int .i64 1, .string wd, .int .i64 (at0 : Int)] by unfold tokV; rw [HMk.out]; rfl] at HRes
        clear hnx HNx HNum hnum hlt hdl h0 hdw hwsz hd hm hv
        go_enter Tryd.func40, Tryd.ntmps40
        go_wp2_with fail
        refine (HRw.out _).mono ?_
        rintro e w' ⟨rfl, rfl⟩
        go_wp2_with fail
        refine (HLt.out _).mono ?_
        rintro e w' ⟨rfl, rfl⟩
        go_wp2_with fail
        refine (HDg.out _).mono ?_
        rintro e w' ⟨rfl, rfl⟩
        go_wp2_with fail
        refine (HNm.out _).mono ?_
        rintro e W2 ⟨rfl, hb⟩
        obtain ⟨hc, hf⟩ := bcell hb
        have hz : w.heap.size < W2.heap.size := by have := hb.size; simp at this; omega
        go_wp2_with fail
        exact bodyPost_ret (v := .tuple #[.agg #[.int .i64 1, .string wd, .int .i64 (at0 : Int)], .int .i64 0, .int .i64 0]) (by simp [results, Tryd.results40, go_sem, hc, hf, hz]) rfl ⟨congrArg Ending.returned HRes.out.symm, (((((Below.refl w.heap.size w).alloc (Nat.le_refl _) _).trans (hb.mono (by simp))).setCell (p := ⟨w.heap.size, 0, none⟩) (Nat.le_refl _) _).setCell (p := ⟨w.heap.size, 1, none⟩) (Nat.le_refl _) _).setCell (p := ⟨w.heap.size, 2, none⟩) (Nat.le_refl _) _⟩

end Go.Proofs.YtgckopicmobbgaaDoor
