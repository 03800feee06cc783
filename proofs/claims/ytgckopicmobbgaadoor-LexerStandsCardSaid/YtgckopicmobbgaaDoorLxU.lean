/- The specification: Blank, Next. -/
import Derived.Test.YtgckopicmobbgaaDoorLxS
import Derived.Test.YtgckopicmobbgaaDoorLxE
import Derived.WalkKit
import Derived.WalkSpells
import Derived.WalkLawsBesides
import Derived.Handy
import Derived.Deep.QuietTactic
import Derived.BigQuiet
import Derived.Outline
import Derived.Laws.BitsAllLaws
import Derived.IntWalk
import Derived.Lib.SmallJoins
import Derived.Lib.Hide
import Derived.Deep.DeepCutAuto
import Derived.LoopTactic
import Derived.Deep.RegionWith
import Derived.Lib.ConvBytes
import Derived.OwnWalk
import Derived.Laws.MakeOwn
import Derived.Laws.IdiomStrings
namespace Go.Proofs.YtgckopicmobbgaaDoor
set_option linter.unusedVariables false
set_option linter.unusedSimpArgs false
open Go.RowKit Lex

set_option maxRecDepth 20000 in
set_option maxHeartbeats 2000000 in
theorem rblank (s : ByteArray) (hs : s.size ≤ 1000000) (at0 : Nat) (hat : at0 ≤ s.size) (w : World) : Calls Tryd.prog 41 #[.string s, .int .i64 (at0 : Int)] w fun e w' => e = .returned (.int .i64 ((at0 + sepN false ((bl s).drop at0) : Nat) : Int)) ∧ w = w' := by
  have HL := Lib.hid hs
  have HAt := Lib.hid hat
  obtain ⟨N, hN⟩ : ∃ N, at0 + sepN false ((bl s).drop at0) = N := ⟨_, rfl⟩
  rw [hN]
  have HN := Lib.hid hN
  clear hN hs hat
  go_enter Tryd.func41, Tryd.ntmps41
  go_wp2_with fail
  go_loopw [1] (fun j wr => ∃ i : Nat, i ≤ s.size ∧ j = .int .i64 (i : Int) ∧ i + sepN false ((bl s).drop i) = N ∧ wr = w) (fun j _ => s.size - (intOf j).toNat)
  case atStart => exact ⟨at0, HAt.out, by first | trivial | rfl, HN.out, rfl⟩
  case round =>
    obtain ⟨i, hi, rfl, hr, rfl⟩ := hrel
    have hs := HL.out
    by_cases hlt : i < s.size
    · have hi1 : (i : Int) < (s.size : Int) := by omega
      have hb := bl_drop hlt
      have hc := (s[i]'hlt).toNat_lt
      obtain ⟨c, hcc⟩ : ∃ c, (s[i]'hlt).toNat = c := ⟨_, rfl⟩
      rw [hcc] at hb hc
      by_cases h35 : c = 35
      · subst h35
        have h3 := sep_hash ((bl s).drop (i + 1))
        rw [← hb] at h3
        have hle := hdN_le ne10 ((bl s).drop i)
        rw [List.length_drop, bl_len] at hle
        have hpos : 0 < hdN ne10 ((bl s).drop i) := by rw [hb, hdN_yes (by decide)]; omega
        obtain ⟨m, hm⟩ : ∃ m, hdN ne10 ((bl s).drop i) = m := ⟨_, rfl⟩
        rw [hm] at h3 hle hpos
        rw [h3, List.drop_drop] at hr
        have HR2 := Lib.hid (show i + m + sepN false ((bl s).drop (i + m)) = N by omega)
        have HM := Lib.hid hm
        clear hb hr h3 hm
        go_wp2_with fail
        go_loopw [1] (fun j wl => ∃ q : Nat, i ≤ q ∧ q ≤ s.size ∧ j = .int .i64 (q : Int) ∧ q + hdN ne10 ((bl s).drop q) = i + m ∧ wl = wr) (fun j _ => s.size - (intOf j).toNat)
        case atStart => exact ⟨i, by omega, by omega, by first | trivial | rfl, by rw [HM.out], rfl⟩
        case round =>
          obtain ⟨q, hq0, hq, rfl, hqr, rfl⟩ := hrel
          have hs := HL.out
          by_cases hlq : q < s.size
          · have hq1 : (q : Int) < (s.size : Int) := by omega
            have hb := bl_drop hlq
            obtain ⟨d, hdd⟩ : ∃ d, (s[q]'hlq).toNat = d := ⟨_, rfl⟩
            rw [hdd] at hb
            rw [hb] at hqr
            by_cases h10 : d = 10
            · have hz : hdN ne10 (d :: (bl s).drop (q + 1)) = 0 := hdN_no (by rw [h10]; decide)
              rw [hz] at hqr
              have hqm : q = i + m := by omega
              have HR3 := Lib.hid (show q + sepN false ((bl s).drop q) = N by rw [hqm]; exact HR2.out)
              have g1 : ((d : Int) != 10) = false := by rw [bne_eq_false_iff_eq]; omega
              have g2 : (d : Int) = 10 := by omega
              have HQm := Lib.hid hqm
              clear hb hqr hz h10 hqm
              go_wp2_with fail
              go_roundw
              case rel => exact ⟨q, by omega, by go_num, HR3.out, by first | rfl | trivial⟩
              case measure => have := HQm.out; simp [intOf]; omega
            · have hy : hdN ne10 (d :: (bl s).drop (q + 1)) = hdN ne10 ((bl s).drop (q + 1)) + 1 := hdN_yes (by unfold ne10; exact decide_eq_true h10)
              rw [hy] at hqr
              have HQ := Lib.hid (show q + 1 + hdN ne10 ((bl s).drop (q + 1)) = i + m by omega)
              have g1 : ((d : Int) != 10) = true := by rw [bne_iff_ne]; omega
              have g2 : ¬ (d : Int) = 10 := by omega
              clear hb hqr hy
              go_wp2_with fail
              go_roundw
              case rel => exact ⟨q + 1, by omega, by omega, by go_num, HQ.out, by first | rfl | trivial⟩
              case measure => simp [intOf]; omega
          · obtain rfl : q = s.size := by omega
            have e : (bl s).drop s.size = [] := List.drop_eq_nil_of_le (by rw [bl_len]; exact Nat.le_refl _)
            rw [e] at hqr
            have hqm : s.size = i + m := hqr
            have HR3 := Lib.hid (show s.size + sepN false ((bl s).drop s.size) = N by
              have h := HR2.out
              rw [← hqm] at h
              exact h)
            have HQm := Lib.hid hqm
            clear hqr e hlq hqm
            go_wp2_with fail
            go_roundw
            case rel => exact ⟨s.size, by omega, by go_num, HR3.out, by first | rfl | trivial⟩
            case measure => have := HQm.out; simp [intOf]; omega
      · have f0 : ¬ (c : Int) = 35 := by omega
        have f1 : ((c : Int) == 35) = false := by rw [beq_eq_false_iff_ne]; exact f0
        cases hp : isBlk c with
        | true =>
          rw [hb, sep_blank _ hp] at hr
          have HR2 := Lib.hid (show i + 1 + sepN false ((bl s).drop (i + 1)) = N by omega)
          have hor : c = 32 ∨ c = 9 ∨ c = 13 ∨ c = 10 := by unfold isBlk at hp; simpa [or_assoc] using hp
          clear hb hr hp h35 f0 f1 hc
          rcases hor with rfl | rfl | rfl | rfl
          all_goals
            go_wp2_with fail
            go_roundw
            case rel => exact ⟨i + 1, by omega, by go_num, HR2.out, by first | rfl | trivial⟩
            case measure => simp [intOf]; omega
        | false =>
          rw [hb, sep_stop _ hp h35] at hr
          obtain rfl : i = N := by omega
          have hnor : ¬ c = 32 ∧ ¬ c = 9 ∧ ¬ c = 13 ∧ ¬ c = 10 := by
            unfold isBlk at hp
            simp only [Bool.or_eq_false_iff, decide_eq_false_iff_not] at hp
            exact ⟨hp.1.1.1, hp.1.1.2, hp.1.2, hp.2⟩
          have k1 : ((c : Int) != 32) = true := by rw [bne_iff_ne]; omega
          have k2 : ((c : Int) != 9) = true := by rw [bne_iff_ne]; omega
          have k3 : ((c : Int) != 13) = true := by rw [bne_iff_ne]; omega
          have k4 : ((c : Int) != 10) = true := by rw [bne_iff_ne]; omega
          have m1 : ¬ (c : Int) = 32 := by omega
          have m2 : ¬ (c : Int) = 9 := by omega
          have m3 : ¬ (c : Int) = 13 := by omega
          have m4 : ¬ (c : Int) = 10 := by omega
          clear hb hr hp hnor
          go_wp2_with fail
          go_ret
          exact ⟨rfl, rfl⟩
    · obtain rfl : i = s.size := by omega
      have e : (bl s).drop s.size = [] := List.drop_eq_nil_of_le (by rw [bl_len]; exact Nat.le_refl _)
      rw [e] at hr
      have hr2 : s.size = N := hr
      clear hr e hlt
      go_wp2_with fail
      go_ret
      exact ⟨by simp [hr2], rfl⟩

/-- What the specification's Next answers. -/
def rnv (D : List Nat) (p : Nat) : Value := .tuple #[.int .i64 ((nxt D).1 : Int), .int .i64 ((nxt D).2.1 : Int), .int .i64 (if (nxt D).2.2.2 = 0 then 0 else ((p + (nxt D).2.2.1 : Nat) : Int)), .int .i64 ((nxt D).2.2.2 : Int)]
theorem rnv_ok {D : List Nat} {p k n : Nat} (h : nxt D = (k, n, 0, 0)) : rnv D p = .tuple #[.int .i64 (k : Int), .int .i64 (n : Int), .int .i64 0, .int .i64 0] := by unfold rnv; rw [h]; rfl
theorem rnv_bad {D : List Nat} {p o c : Nat} (h : nxt D = (0, 0, o, c)) (hc : c ≠ 0) : rnv D p = .tuple #[.int .i64 0, .int .i64 0, .int .i64 ((p + o : Nat) : Int), .int .i64 (c : Int)] := by
  unfold rnv
  rw [h]
  show Value.tuple #[.int .i64 ((0 : Nat) : Int), .int .i64 ((0 : Nat) : Int), .int .i64 (if c = 0 then 0 else ((p + o : Nat) : Int)), .int .i64 (c : Int)] = _
  rw [if_neg hc]
  rfl
def RN (v : Value) (w : World) (e : Ending) (w' : World) : Prop := e = .returned v ∧ Below w.heap.size w w'

set_option maxRecDepth 20000 in
set_option maxHeartbeats 2000000 in
theorem rnext (s : ByteArray) (hs : s.size ≤ 1000000) (at0 : Nat) (hat : at0 < s.size) (w : World) : Calls Tryd.prog 42 #[.string s, .int .i64 (at0 : Int)] w (RN (rnv ((bl s).drop at0) at0) w) := by
  have HW := Lib.hid (rword s hs at0 (by omega))
  have HD := Lib.hid (rdigits s hs at0 (by omega))
  have HS := Lib.hid (rsign s hs at0 hat)
  have hDl : ((bl s).drop at0).length = s.size - at0 := by rw [List.length_drop, bl_len]
  have hDc := bl_drop hat
  have hc256 := (s[at0]'hat).toNat_lt
  obtain ⟨c, hcc⟩ : ∃ c, (s[at0]'hat).toNat = c := ⟨_, rfl⟩
  rw [hcc] at hDc hc256
  have HLt := Lib.hid (Letter_r c hc256)
  have hat1 : (at0 : Int) < (s.size : Int) := by omega
  have hle := hdN_le isWrd ((bl s).drop at0)
  rw [hDl] at hle
  have hwd := ext_mk s at0 (at0 + hdN isWrd ((bl s).drop at0))
  rw [Nat.add_sub_cancel_left] at hwd
  rcases Nat.eq_zero_or_pos (hdN isWrd ((bl s).drop at0)) with h0 | h0
  · have hnx : nxt ((bl s).drop at0) = if sgnN ((bl s).drop at0) = 0 then (0, 0, 0, 4) else (2, sgnN ((bl s).drop at0), 0, 0) := by unfold nxt; rw [if_pos h0]
    rw [h0] at HW
    obtain ⟨D, hDD⟩ : ∃ D, (bl s).drop at0 = D := ⟨_, rfl⟩
    rw [hDD] at HS hnx ⊢
    obtain ⟨g, hg⟩ : ∃ g, sgnN D = g := ⟨_, rfl⟩
    rw [hg] at HS hnx
    have HNx := Lib.hid hnx
    clear hDl hDc hc256 hcc HLt hle hwd h0 hnx hDD hg HD
    by_cases hg0 : g = 0
    · have hn := HNx.out
      rw [if_pos hg0] at hn
      have HRes := Lib.hid (show rnv D at0 = .tuple #[.int .i64 0, .int .i64 0, .int .i64 (at0 : Int), .int .i64 4] from rnv_bad hn (by decide))
      subst hg0
      clear hn HNx
      go_enter Tryd.func42, Tryd.ntmps42
      go_wp2_with fail
      refine (HW.out _).mono ?_
      rintro e w' ⟨rfl, rfl⟩
      go_wp2_with fail
      refine (HS.out _).mono ?_
      rintro e W1 ⟨rfl, hb⟩
      have HB := Lib.hid hb
      clear hb
      go_wp2_with fail
      exact bodyPost_ret (v := .tuple #[.int .i64 0, .int .i64 0, .int .i64 (at0 : Int), .int .i64 4]) (by simp [results, Tryd.results42, go_sem]) rfl ⟨congrArg Ending.returned HRes.out.symm, HB.out⟩
    · have hn := HNx.out
      rw [if_neg hg0] at hn
      have HRes := Lib.hid (rnv_ok (p := at0) hn)
      have hg1 : (0 : Int) < (g : Int) := by omega
      have hg2 : 0 < g := by omega
      clear hn HNx hg0
      go_enter Tryd.func42, Tryd.ntmps42
      go_wp2_with fail
      refine (HW.out _).mono ?_
      rintro e w' ⟨rfl, rfl⟩
      go_wp2_with fail
      refine (HS.out _).mono ?_
      rintro e W1 ⟨rfl, hb⟩
      have HB := Lib.hid hb
      clear hb
      go_wp2_with fail
      exact bodyPost_ret (v := .tuple #[.int .i64 2, .int .i64 (g : Int), .int .i64 0, .int .i64 0]) (by simp [results, Tryd.results42, go_sem]) rfl ⟨congrArg Ending.returned HRes.out.symm, HB.out⟩
  · have hnx := nxt_word h0
    have hdt := dig_take ((bl s).drop at0)
    have hdw := dig_le_wrd ((bl s).drop at0)
    have hhd : ((bl s).drop at0).headD 0 = c := by rw [hDc]; rfl
    rw [hhd] at hnx
    obtain ⟨n, hn⟩ : ∃ n, hdN isWrd ((bl s).drop at0) = n := ⟨_, rfl⟩
    rw [hn] at h0 HW hwd hle hnx hdt hdw
    obtain ⟨D, hDD⟩ : ∃ D, (bl s).drop at0 = D := ⟨_, rfl⟩
    rw [hDD] at HD hnx hwd hdt hdw hDl ⊢
    have hD256 : ∀ x ∈ D.take n, x < 256 := fun x hx => bl_lt s x (List.mem_of_mem_drop (hDD ▸ List.mem_of_mem_take hx))
    obtain ⟨wd, hwdd⟩ : ∃ wd, s.extract at0 (at0 + n) = wd := ⟨_, rfl⟩
    have hblw : bl wd = D.take n := by rw [← hwdd, hwd]; exact bl_mk hD256
    have hwsz : wd.size = n := by rw [← bl_len, hblw, List.length_take, hDl]; omega
    have hn1 : (at0 : Int) + (n : Int) ≤ (s.size : Int) := by omega
    have hn2 : ¬ (n : Int) = 0 := by omega
    have hn3 : ((n : Int) == 0) = false := by rw [beq_eq_false_iff_ne]; exact hn2
    have HNx := Lib.hid hnx
    have hvl : hdN isDig D = n → ∀ W, Calls Tryd.prog 78 #[.string wd] W fun e w' => (∃ x : Int, e = .returned (.tuple #[.int .i64 x, .bool (valN 0 (D.take n)).isSome])) ∧ W = w' := fun hdn W => by
      have h1 := rvalue wd (by omega) (dig_all (bl wd) (by rw [hblw, hdt, hdn, List.length_take, hDl]; omega)) W
      rw [hblw] at h1
      exact h1
    have HVl := Lib.hid hvl
    clear hDl hDc hc256 hle hwd hnx hDD hhd hD256 hblw hwsz hdt hvl HS hn
    cases hlt : isLet c with
    | true =>
      rw [hlt] at HLt
      have hnx := HNx.out
      rw [hlt, if_pos rfl] at hnx
      by_cases h24 : 24 < n
      · rw [if_pos h24] at hnx
        have HRes := Lib.hid (show rnv D at0 = .tuple #[.int .i64 0, .int .i64 0, .int .i64 (at0 : Int), .int .i64 8] from rnv_bad hnx (by decide))
        have h24' : (24 : Int) < (n : Int) := by omega
        clear hnx HNx HD HVl hlt hdw h24
        go_enter Tryd.func42, Tryd.ntmps42
        go_wp2_with fail
        refine (HW.out _).mono ?_
        rintro e w' ⟨rfl, rfl⟩
        go_wp2_with fail
        refine (HLt.out _).mono ?_
        rintro e w' ⟨rfl, rfl⟩
        go_wp2_with fail
        exact bodyPost_ret (v := .tuple #[.int .i64 0, .int .i64 0, .int .i64 (at0 : Int), .int .i64 8]) (by simp [results, Tryd.results42, go_sem]) rfl ⟨congrArg Ending.returned HRes.out.symm, Below.refl _ _⟩
      · rw [if_neg h24] at hnx
        have HRes := Lib.hid (rnv_ok (p := at0) hnx)
        have h24' : ¬ (24 : Int) < (n : Int) := by omega
        clear hnx HNx HD HVl hlt hdw h24
        go_enter Tryd.func42, Tryd.ntmps42
        go_wp2_with fail
        refine (HW.out _).mono ?_
        rintro e w' ⟨rfl, rfl⟩
        go_wp2_with fail
        refine (HLt.out _).mono ?_
        rintro e w' ⟨rfl, rfl⟩
        go_wp2_with fail
        exact bodyPost_ret (v := .tuple #[.int .i64 0, .int .i64 (n : Int), .int .i64 0, .int .i64 0]) (by simp [results, Tryd.results42, go_sem]) rfl ⟨congrArg Ending.returned HRes.out.symm, Below.refl _ _⟩
    | false =>
      rw [hlt] at HLt
      have hnx := HNx.out
      rw [hlt, if_neg (by decide)] at hnx
      obtain ⟨d, hd⟩ : ∃ d, hdN isDig D = d := ⟨_, rfl⟩
      rw [hd] at hnx hdw HD
      have hvl := HVl.out
      rw [hd] at hvl
      by_cases hdl : d < n
      · rw [if_pos hdl] at hnx
        have HRes := Lib.hid (show rnv D at0 = .tuple #[.int .i64 0, .int .i64 0, .int .i64 ((at0 + d : Nat) : Int), .int .i64 4] from rnv_bad hnx (by decide))
        have hdl' : (d : Int) < (n : Int) := by omega
        have hbd : (at0 : Int) + (d : Int) ≤ 1000000 := by omega
        clear hnx HNx HVl hvl hlt hd
        go_enter Tryd.func42, Tryd.ntmps42
        go_wp2_with fail
        refine (HW.out _).mono ?_
        rintro e w' ⟨rfl, rfl⟩
        go_wp2_with fail
        refine (HLt.out _).mono ?_
        rintro e w' ⟨rfl, rfl⟩
        go_wp2_with fail
        refine (HD.out _).mono ?_
        rintro e w' ⟨rfl, rfl⟩
        go_wp2_with fail
        exact bodyPost_ret (v := .tuple #[.int .i64 0, .int .i64 0, .int .i64 ((at0 + d : Nat) : Int), .int .i64 4]) (by simp [results, Tryd.results42, go_sem]) rfl ⟨congrArg Ending.returned HRes.out.symm, Below.refl _ _⟩
      · rw [if_neg hdl] at hnx
        have hv2 := Lib.hid (hvl (by omega))
        have hdl' : ¬ (d : Int) < (n : Int) := by omega
        cases hv : valN 0 (D.take n) with
        | none =>
          rw [hv] at hnx hv2
          have HRes := Lib.hid (show rnv D at0 = .tuple #[.int .i64 0, .int .i64 0, .int .i64 (at0 : Int), .int .i64 2] from rnv_bad hnx (by decide))
          clear hnx HNx HVl hvl hlt hd hv hdl
          go_enter Tryd.func42, Tryd.ntmps42
          go_wp2_with fail
          refine (HW.out _).mono ?_
          rintro e w' ⟨rfl, rfl⟩
          go_wp2_with fail
          refine (HLt.out _).mono ?_
          rintro e w' ⟨rfl, rfl⟩
          go_wp2_with fail
          refine (HD.out _).mono ?_
          rintro e w' ⟨rfl, rfl⟩
          go_wp2_with fail
          refine (hv2.out _).mono ?_
          rintro e w' ⟨⟨x, rfl⟩, rfl⟩
          go_wp2_with fail
          exact bodyPost_ret (v := .tuple #[.int .i64 0, .int .i64 0, .int .i64 (at0 : Int), .int .i64 2]) (by simp [results, Tryd.results42, go_sem]) rfl ⟨congrArg Ending.returned HRes.out.symm, Below.refl _ _⟩
        | some v =>
          rw [hv] at hnx hv2
          have HRes := Lib.hid (rnv_ok (p := at0) hnx)
          clear hnx HNx HVl hvl hlt hd hv hdl
          go_enter Tryd.func42, Tryd.ntmps42
          go_wp2_with fail
          refine (HW.out _).mono ?_
          rintro e w' ⟨rfl, rfl⟩
          go_wp2_with fail
          refine (HLt.out _).mono ?_
          rintro e w' ⟨rfl, rfl⟩
          go_wp2_with fail
          refine (HD.out _).mono ?_
          rintro e w' ⟨rfl, rfl⟩
          go_wp2_with fail
          refine (hv2.out _).mono ?_
          rintro e w' ⟨⟨x, rfl⟩, rfl⟩
          go_wp2_with fail
          exact bodyPost_ret (v := .tuple #[.int .i64 1, .int .i64 (n : Int), .int .i64 0, .int .i64 0]) (by simp [results, Tryd.results42, go_sem]) rfl ⟨congrArg Ending.returned HRes.out.symm, Below.refl _ _⟩

end Go.Proofs.YtgckopicmobbgaaDoor
