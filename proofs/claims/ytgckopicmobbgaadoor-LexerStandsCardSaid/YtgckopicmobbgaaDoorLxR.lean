/- The specification: words, digits, values. -/
import Derived.Test.YtgckopicmobbgaaDoorLxA
import Derived.WalkKit
import Derived.WalkSpells
import Derived.WalkLawsBesides
import Derived.Handy
import Derived.Deep.QuietTactic
import Derived.BigQuiet
import Derived.Outline
import Derived.Laws.BitsAllLaws
import Derived.IntWalk
import Derived.Lib.SmallJoins
import Derived.Lib.Hide
import Derived.Deep.DeepCutAuto
import Derived.LoopTactic
import Derived.Deep.RegionWith
import Derived.Lib.ConvBytes
import Derived.OwnWalk
import Derived.Laws.MakeOwn
import Derived.Laws.IdiomStrings
namespace Go.Proofs.YtgckopicmobbgaaDoor
set_option linter.unusedVariables false
set_option linter.unusedSimpArgs false
open Go.RowKit Lex

set_option maxRecDepth 20000 in
set_option maxHeartbeats 1000000 in
theorem rword (s : ByteArray) (hs : s.size ≤ 1000000) (at0 : Nat) (hat : at0 ≤ s.size) (w : World) : Calls Tryd.prog 74 #[.string s, .int .i64 (at0 : Int)] w fun e w' => e = .returned (.int .i64 ((hdN isWrd ((bl s).drop at0) : Nat) : Int)) ∧ w = w' := by
  have HL := Lib.hid hs
  have HAt := Lib.hid hat
  obtain ⟨N, hN⟩ : ∃ N, hdN isWrd ((bl s).drop at0) = N := ⟨_, rfl⟩
  rw [hN]
  have HN := Lib.hid hN
  clear hN hs hat
  go_enter Tryd.func74, Tryd.ntmps74
  go_wp2_with fail
  go_loopw [5] (fun j wr => ∃ n : Nat, at0 + n ≤ s.size ∧ j = .int .i64 (n : Int) ∧ n + hdN isWrd ((bl s).drop (at0 + n)) = N ∧ wr = w) (fun j _ => s.size - (intOf j).toNat)
  case atStart => exact ⟨0, HAt.out, by first | trivial | rfl, by rw [Nat.add_zero, Nat.zero_add]; exact HN.out, rfl⟩
  case round =>
    obtain ⟨n, hn, rfl, hr, rfl⟩ := hrel
    have hs := HL.out
    have hb1 : (at0 : Int) + (n : Int) ≤ 1000000 := by omega
    by_cases hlt : at0 + n < s.size
    · have hi1 : (at0 : Int) + (n : Int) < (s.size : Int) := by omega
      have hb := bl_drop hlt
      have hc := (s[at0 + n]'hlt).toNat_lt
      obtain ⟨c, hcc⟩ : ∃ c, (s[at0 + n]'hlt).toNat = c := ⟨_, rfl⟩
      rw [hcc] at hb hc
      rw [hb] at hr
      have HL1 := Lib.hid (Letter_r c hc)
      have HD1 := Lib.hid (Digit_r c hc)
      have hp : isWrd c = (isLet c || isDig c) := rfl
      obtain ⟨x, hx⟩ : ∃ x, isLet c = x := ⟨_, rfl⟩
      obtain ⟨y, hy⟩ : ∃ y, isDig c = y := ⟨_, rfl⟩
      rw [hx] at HL1 hp
      rw [hy] at HD1 hp
      clear hx hy
      cases x
      all_goals cases y
      · rw [hdN_no hp] at hr
        obtain rfl : n = N := by omega
        clear hb hr hp
        go_wp2_with fail
        refine (HL1.out _).mono ?_
        rintro e w' ⟨rfl, rfl⟩
        go_wp2_with fail
        refine (HD1.out _).mono ?_
        rintro e w' ⟨rfl, rfl⟩
        go_wp2_with fail
        go_ret
        exact ⟨rfl, rfl⟩
      · rw [hdN_yes hp] at hr
        have HR := Lib.hid (show n + 1 + hdN isWrd ((bl s).drop (at0 + n + 1)) = N by omega)
        clear hb hr hp
        go_wp2_with fail
        refine (HL1.out _).mono ?_
        rintro e w' ⟨rfl, rfl⟩
        go_wp2_with fail
        refine (HD1.out _).mono ?_
        rintro e w' ⟨rfl, rfl⟩
        go_wp2_with fail
        go_roundw
        case rel => exact ⟨n + 1, by omega, by go_num, by rw [← Nat.add_assoc]; exact HR.out, by first | rfl | trivial⟩
        case measure => simp [intOf]; omega
      · rw [hdN_yes hp] at hr
        have HR := Lib.hid (show n + 1 + hdN isWrd ((bl s).drop (at0 + n + 1)) = N by omega)
        clear hb hr hp
        go_wp2_with fail
        refine (HL1.out _).mono ?_
        rintro e w' ⟨rfl, rfl⟩
        go_wp2_with fail
        go_roundw
        case rel => exact ⟨n + 1, by omega, by go_num, by rw [← Nat.add_assoc]; exact HR.out, by first | rfl | trivial⟩
        case measure => simp [intOf]; omega
      · rw [hdN_yes hp] at hr
        have HR := Lib.hid (show n + 1 + hdN isWrd ((bl s).drop (at0 + n + 1)) = N by omega)
        clear hb hr hp
        go_wp2_with fail
        refine (HL1.out _).mono ?_
        rintro e w' ⟨rfl, rfl⟩
        go_wp2_with fail
        go_roundw
        case rel => exact ⟨n + 1, by omega, by go_num, by rw [← Nat.add_assoc]; exact HR.out, by first | rfl | trivial⟩
        case measure => simp [intOf]; omega
    · have e : (bl s).drop (at0 + n) = [] := List.drop_eq_nil_of_le (by rw [bl_len]; omega)
      rw [e] at hr
      have hr2 : n = N := hr
      subst hr2
      have hi1 : ¬ (at0 : Int) + (n : Int) < (s.size : Int) := by omega
      clear hr e hlt
      go_wp2_with fail
      go_ret
      exact ⟨rfl, rfl⟩
set_option maxRecDepth 20000 in
set_option maxHeartbeats 1000000 in
theorem rdigits (s : ByteArray) (hs : s.size ≤ 1000000) (at0 : Nat) (hat : at0 ≤ s.size) (w : World) : Calls Tryd.prog 77 #[.string s, .int .i64 (at0 : Int)] w fun e w' => e = .returned (.int .i64 ((hdN isDig ((bl s).drop at0) : Nat) : Int)) ∧ w = w' := by
  have HL := Lib.hid hs
  have HAt := Lib.hid hat
  obtain ⟨N, hN⟩ : ∃ N, hdN isDig ((bl s).drop at0) = N := ⟨_, rfl⟩
  rw [hN]
  have HN := Lib.hid hN
  clear hN hs hat
  go_enter Tryd.func77, Tryd.ntmps77
  go_wp2_with fail
  go_loopw [5] (fun j wr => ∃ n : Nat, at0 + n ≤ s.size ∧ j = .int .i64 (n : Int) ∧ n + hdN isDig ((bl s).drop (at0 + n)) = N ∧ wr = w) (fun j _ => s.size - (intOf j).toNat)
  case atStart => exact ⟨0, HAt.out, by first | trivial | rfl, by rw [Nat.add_zero, Nat.zero_add]; exact HN.out, rfl⟩
  case round =>
    obtain ⟨n, hn, rfl, hr, rfl⟩ := hrel
    have hs := HL.out
    have hb1 : (at0 : Int) + (n : Int) ≤ 1000000 := by omega
    by_cases hlt : at0 + n < s.size
    · have hi1 : (at0 : Int) + (n : Int) < (s.size : Int) := by omega
      have hb := bl_drop hlt
      have hc := (s[at0 + n]'hlt).toNat_lt
      obtain ⟨c, hcc⟩ : ∃ c, (s[at0 + n]'hlt).toNat = c := ⟨_, rfl⟩
      rw [hcc] at hb hc
      rw [hb] at hr
      have HD1 := Lib.hid (Digit_r c hc)
      cases hp : isDig c with
      | false =>
        rw [hp] at HD1
        rw [hdN_no hp] at hr
        obtain rfl : n = N := by omega
        clear hb hr hp
        go_wp2_with fail
        refine (HD1.out _).mono ?_
        rintro e w' ⟨rfl, rfl⟩
        go_wp2_with fail
        go_ret
        exact ⟨rfl, rfl⟩
      | true =>
        rw [hp] at HD1
        rw [hdN_yes hp] at hr
        have HR := Lib.hid (show n + 1 + hdN isDig ((bl s).drop (at0 + n + 1)) = N by omega)
        clear hb hr hp
        go_wp2_with fail
        refine (HD1.out _).mono ?_
        rintro e w' ⟨rfl, rfl⟩
        go_wp2_with fail
        go_roundw
        case rel => exact ⟨n + 1, by omega, by go_num, by rw [← Nat.add_assoc]; exact HR.out, by first | rfl | trivial⟩
        case measure => simp [intOf]; omega
    · have e : (bl s).drop (at0 + n) = [] := List.drop_eq_nil_of_le (by rw [bl_len]; omega)
      rw [e] at hr
      have hr2 : n = N := hr
      subst hr2
      have hi1 : ¬ (at0 : Int) + (n : Int) < (s.size : Int) := by omega
      clear hr e hlt
      go_wp2_with fail
      go_ret
      exact ⟨rfl, rfl⟩

set_option maxRecDepth 20000 in
set_option maxHeartbeats 1000000 in
/-- Value, of digits. -/
theorem rvalue (s : ByteArray) (hs : s.size ≤ 1000000) (hd : ∀ c ∈ bl s, isDig c = true) (w : World) : Calls Tryd.prog 78 #[.string s] w fun e w' => (∃ x : Int, e = .returned (.tuple #[.int .i64 x, .bool (valN 0 (bl s)).isSome])) ∧ w = w' := by
  have HS := Lib.hid hs
  have HDg := Lib.hid hd
  obtain ⟨r, hr⟩ : ∃ r, (valN 0 (bl s)).isSome = r := ⟨_, rfl⟩
  rw [hr]
  have HV := Lib.hid hr
  clear hr hd hs
  go_enter Tryd.func78, Tryd.ntmps78
  go_wp2_with fail
  go_loopw [4, 5] (fun v j wr => ∃ i x : Nat, i ≤ s.size ∧ x ≤ 1048576 ∧ j = .int .i64 (i : Int) ∧ v = .int .i64 (x : Int) ∧ (valN x ((bl s).drop i)).isSome = r ∧ wr = w) (fun _ j _ => s.size - (intOf j).toNat)
  case atStart => exact ⟨0, 0, by omega, by omega, by first | trivial | rfl, by first | trivial | rfl, by rw [List.drop_zero]; exact HV.out, rfl⟩
  case round =>
    obtain ⟨i, x, hi, hx, rfl, rfl, hv, rfl⟩ := hrel
    have hs := HS.out
    by_cases hlt : i < s.size
    · have hi1 : (i : Int) < (s.size : Int) := by omega
      have hb := bl_drop hlt
      obtain ⟨c, hcc⟩ : ∃ c, (s[i]'hlt).toNat = c := ⟨_, rfl⟩
      rw [hcc] at hb
      have hdc := HDg.out c (List.mem_of_mem_drop (hb ▸ List.mem_cons_self))
      have h48 : 48 ≤ c ∧ c ≤ 57 := by unfold isDig at hdc; simpa using hdc
      rw [hb, valN_cons] at hv
      have hw1 : IntKind.u8.wrap ((c : Int) - 48) = ((c - 48 : Nat) : Int) := by
        have h1 := h48.1
        have h2 := h48.2
        have e : ((c : Int) - 48) = ((c - 48 : Nat) : Int) := by omega
        rw [e]
        have h3 : c - 48 < 256 := by omega
        generalize c - 48 = d at h3
        show ((d : Int) % 256) = _
        omega
      obtain ⟨d, hdd⟩ : ∃ d, c - 48 = d := ⟨_, rfl⟩
      rw [hdd] at hw1 hv
      have hd9 : d ≤ 9 := by omega
      have h48a := h48.1
      have h48b := h48.2
      have HV2 := Lib.hid hv
      clear hb hdc h48 hv hdd
      by_cases hgt : 1048576 < 10 * x + d
      · have hv2 := HV2.out
        rw [if_pos hgt] at hv2
        have hrf : r = false := by rw [← hv2]; rfl
        subst hrf
        have hg1 : (1048576 : Int) < 10 * (x : Int) + (d : Int) := by omega
        clear hv2 hgt HV
        go_wp2_with fail
        go_ret2
        exact ⟨⟨_, rfl⟩, rfl⟩
      · have hv2 := HV2.out
        rw [if_neg hgt] at hv2
        have HV3 := Lib.hid hv2
        have hg1 : ¬ (1048576 : Int) < 10 * (x : Int) + (d : Int) := by omega
        clear hv2 HV HV2
        go_wp2_with fail
        go_roundw
        case rel => exact ⟨i + 1, 10 * x + d, by omega, by omega, by go_num, by first | rfl | go_num, HV3.out, by first | rfl | trivial⟩
        case measure => simp [intOf]; omega
    · obtain rfl : i = s.size := by omega
      have e : (bl s).drop s.size = [] := List.drop_eq_nil_of_le (by rw [bl_len]; exact Nat.le_refl _)
      rw [e] at hv
      have hrt : r = true := by rw [← hv]; rfl
      subst hrt
      clear hv e hlt HV
      go_wp2_with fail
      go_ret2
      exact ⟨⟨_, rfl⟩, rfl⟩

end Go.Proofs.YtgckopicmobbgaaDoor
