/- Classes of bytes; run. -/
import Derived.Test.YtgckopicmobbgaaDoorProg
import Derived.Test.YtgckopicmobbgaaDoorLxM
import Derived.WalkKit
import Derived.WalkSpells
import Derived.WalkLawsBesides
import Derived.Handy
import Derived.Deep.QuietTactic
import Derived.BigQuiet
import Derived.Outline
import Derived.Laws.BitsAllLaws
import Derived.IntWalk
import Derived.Lib.SmallJoins
import Derived.Lib.Hide
import Derived.Deep.DeepCutAuto
import Derived.LoopTactic
import Derived.Deep.RegionWith
namespace Go.Proofs.YtgckopicmobbgaaDoor
set_option linter.unusedVariables false
set_option linter.unusedSimpArgs false
open Go.RowKit Lex

theorem own : ownKnob Tryd.prog.godebug = none := by kernel_rfl
theorem laidOut : laidOutB Tryd.prog = true := by kernel_rfl
theorem ret_bool {a b : Bool} (h : a = true ↔ b = true) : Ending.returned (.bool a) = Ending.returned (.bool b) := by
  rw [Bool.eq_iff_iff.2 h]

theorem letter_p (c : Nat) (hc : c < 256) (w : World) : Calls Tryd.prog 71 #[.int .u8 (c : Int)] w fun e w' => e = .returned (.bool (isLet c)) ∧ w = w' := by
  unfold isLet
  go_enter Tryd.func71, Tryd.ntmps71
  go_wp2_with fail
  all_goals
    go_ret
    exact ⟨ret_bool (by simp <;> omega), rfl⟩
theorem digit_p (c : Nat) (hc : c < 256) (w : World) : Calls Tryd.prog 72 #[.int .u8 (c : Int)] w fun e w' => e = .returned (.bool (isDig c)) ∧ w = w' := by
  unfold isDig
  go_enter Tryd.func72, Tryd.ntmps72
  go_wp2_with fail
  all_goals
    go_ret
    exact ⟨ret_bool (by simp <;> omega), rfl⟩
theorem skip_1_p (c : Nat) (hc : c < 256) (w : World) : Calls Tryd.prog 68 #[.int .u8 (c : Int)] w fun e w' => e = .returned (.bool (ne10 c)) ∧ w = w' := by
  unfold ne10
  go_enter Tryd.func68, Tryd.ntmps68
  go_wp2_with fail
  all_goals
    go_ret
    exact ⟨ret_bool (by simp <;> omega), rfl⟩
theorem Letter_r (c : Nat) (hc : c < 256) (w : World) : Calls Tryd.prog 76 #[.int .u8 (c : Int)] w fun e w' => e = .returned (.bool (isLet c)) ∧ w = w' := by
  unfold isLet
  go_enter Tryd.func76, Tryd.ntmps76
  go_wp2_with fail
  all_goals
    go_ret
    exact ⟨ret_bool (by simp <;> omega), rfl⟩
theorem Digit_r (c : Nat) (hc : c < 256) (w : World) : Calls Tryd.prog 91 #[.int .u8 (c : Int)] w fun e w' => e = .returned (.bool (isDig c)) ∧ w = w' := by
  unfold isDig
  go_enter Tryd.func91, Tryd.ntmps91
  go_wp2_with fail
  all_goals
    go_ret
    exact ⟨ret_bool (by simp <;> omega), rfl⟩

theorem wordByte_p (c : Nat) (hc : c < 256) (w : World) : Calls Tryd.prog 69 #[.int .u8 (c : Int)] w fun e w' => e = .returned (.bool (isWrd c)) ∧ w = w' := by
  have H1 := Lib.hid (letter_p c hc)
  have H2 := Lib.hid (digit_p c hc)
  unfold isWrd
  obtain ⟨x, hx⟩ : ∃ x, isLet c = x := ⟨_, rfl⟩
  obtain ⟨y, hy⟩ : ∃ y, isDig c = y := ⟨_, rfl⟩
  rw [hx] at H1 ⊢
  rw [hy] at H2 ⊢
  clear hx hy hc
  cases x
  · go_enter Tryd.func69, Tryd.ntmps69
    go_wp2_with fail
    refine (H1.out _).mono ?_
    rintro e w' ⟨rfl, rfl⟩
    go_wp2_with fail
    refine (H2.out _).mono ?_
    rintro e w' ⟨rfl, rfl⟩
    go_wp2_with fail
    go_ret
    exact ⟨rfl, rfl⟩
  · go_enter Tryd.func69, Tryd.ntmps69
    go_wp2_with fail
    refine (H1.out _).mono ?_
    rintro e w' ⟨rfl, rfl⟩
    go_wp2_with fail
    go_ret
    exact ⟨rfl, rfl⟩
set_option maxRecDepth 20000 in
theorem run_wrd (s : ByteArray) (hs : s.size ≤ 1000000) (w : World) : Calls Tryd.prog 67 #[.string s, .func (.func 69) #[] #[]] w fun e w' => e = .returned (.int .i64 ((hdN isWrd (bl s) : Nat) : Int)) ∧ w = w' := by
  obtain ⟨p, hpp⟩ : ∃ p, isWrd = p := ⟨_, rfl⟩
  have HF := Lib.hid (show ∀ c : Nat, c < 256 → ∀ w, Calls Tryd.prog 69 #[.int .u8 (c : Int)] w fun e w' => e = .returned (.bool (p c)) ∧ w = w' from hpp ▸ wordByte_p)
  rw [hpp]
  have HL := Lib.hid hs
  obtain ⟨n, hn⟩ : ∃ n, hdN p (bl s) = n := ⟨_, rfl⟩
  rw [hn]
  have HN := Lib.hid hn
  clear hn hs hpp
  go_enter Tryd.func67, Tryd.ntmps67
  go_wp2_with fail
  go_loopw [8] (fun j wr => ∃ i : Nat, i ≤ s.size ∧ j = .int .i64 (i : Int) ∧ i + hdN p ((bl s).drop i) = n ∧ wr = w) (fun j _ => s.size - (intOf j).toNat)
  case atStart => exact ⟨0, by omega, by first | trivial | rfl, by rw [List.drop_zero, Nat.zero_add]; exact HN.out, rfl⟩
  case round =>
    obtain ⟨i, hi, rfl, hr, rfl⟩ := hrel
    have hs := HL.out
    by_cases hlt : i < s.size
    · have hi1 : (i : Int) < (s.size : Int) := by omega
      have hb := bl_drop hlt
      have hc := s[i].toNat_lt
      obtain ⟨c, hcc⟩ : ∃ c, s[i].toNat = c := ⟨_, rfl⟩
      rw [hcc] at hb hc
      rw [hb] at hr
      have HC := Lib.hid (HF.out c hc)
      cases hp : p c with
      | true =>
        rw [hp] at HC
        rw [hdN_yes hp] at hr
        have HR := Lib.hid (show i + 1 + hdN p ((bl s).drop (i + 1)) = n by omega)
        clear hb hr hp
        go_wp2_with fail
        refine (HC.out _).mono ?_
        rintro e w' ⟨rfl, rfl⟩
        go_wp2_with fail
        go_roundw
        case rel => exact ⟨i + 1, by omega, by go_num, HR.out, by first | rfl | trivial⟩
        case measure => simp [intOf]; omega
      | false =>
        rw [hp] at HC
        rw [hdN_no hp] at hr
        obtain rfl : i = n := by omega
        clear hb hp hr
        go_wp2_with fail
        refine (HC.out _).mono ?_
        rintro e w' ⟨rfl, rfl⟩
        go_wp2_with fail
        go_ret
        exact ⟨rfl, rfl⟩
    · obtain rfl : i = s.size := by omega
      have e : (bl s).drop s.size = [] := List.drop_eq_nil_of_le (by rw [bl_len]; exact Nat.le_refl _)
      rw [e] at hr
      have hr2 : s.size = n := hr
      clear hr e hlt
      go_wp2_with fail
      go_ret
      exact ⟨by simp [hr2], rfl⟩
set_option maxRecDepth 20000 in
theorem run_dig (s : ByteArray) (hs : s.size ≤ 1000000) (w : World) : Calls Tryd.prog 67 #[.string s, .func (.func 72) #[] #[]] w fun e w' => e = .returned (.int .i64 ((hdN isDig (bl s) : Nat) : Int)) ∧ w = w' := by
  obtain ⟨p, hpp⟩ : ∃ p, isDig = p := ⟨_, rfl⟩
  have HF := Lib.hid (show ∀ c : Nat, c < 256 → ∀ w, Calls Tryd.prog 72 #[.int .u8 (c : Int)] w fun e w' => e = .returned (.bool (p c)) ∧ w = w' from hpp ▸ digit_p)
  rw [hpp]
  have HL := Lib.hid hs
  obtain ⟨n, hn⟩ : ∃ n, hdN p (bl s) = n := ⟨_, rfl⟩
  rw [hn]
  have HN := Lib.hid hn
  clear hn hs hpp
  go_enter Tryd.func67, Tryd.ntmps67
  go_wp2_with fail
  go_loopw [8] (fun j wr => ∃ i : Nat, i ≤ s.size ∧ j = .int .i64 (i : Int) ∧ i + hdN p ((bl s).drop i) = n ∧ wr = w) (fun j _ => s.size - (intOf j).toNat)
  case atStart => exact ⟨0, by omega, by first | trivial | rfl, by rw [List.drop_zero, Nat.zero_add]; exact HN.out, rfl⟩
  case round =>
    obtain ⟨i, hi, rfl, hr, rfl⟩ := hrel
    have hs := HL.out
    by_cases hlt : i < s.size
    · have hi1 : (i : Int) < (s.size : Int) := by omega
      have hb := bl_drop hlt
      have hc := s[i].toNat_lt
      obtain ⟨c, hcc⟩ : ∃ c, s[i].toNat = c := ⟨_, rfl⟩
      rw [hcc] at hb hc
      rw [hb] at hr
      have HC := Lib.hid (HF.out c hc)
      cases hp : p c with
      | true =>
        rw [hp] at HC
        rw [hdN_yes hp] at hr
        have HR := Lib.hid (show i + 1 + hdN p ((bl s).drop (i + 1)) = n by omega)
        clear hb hr hp
        go_wp2_with fail
        refine (HC.out _).mono ?_
        rintro e w' ⟨rfl, rfl⟩
        go_wp2_with fail
        go_roundw
        case rel => exact ⟨i + 1, by omega, by go_num, HR.out, by first | rfl | trivial⟩
        case measure => simp [intOf]; omega
      | false =>
        rw [hp] at HC
        rw [hdN_no hp] at hr
        obtain rfl : i = n := by omega
        clear hb hp hr
        go_wp2_with fail
        refine (HC.out _).mono ?_
        rintro e w' ⟨rfl, rfl⟩
        go_wp2_with fail
        go_ret
        exact ⟨rfl, rfl⟩
    · obtain rfl : i = s.size := by omega
      have e : (bl s).drop s.size = [] := List.drop_eq_nil_of_le (by rw [bl_len]; exact Nat.le_refl _)
      rw [e] at hr
      have hr2 : s.size = n := hr
      clear hr e hlt
      go_wp2_with fail
      go_ret
      exact ⟨by simp [hr2], rfl⟩
set_option maxRecDepth 20000 in
theorem run_ne10 (s : ByteArray) (hs : s.size ≤ 1000000) (w : World) : Calls Tryd.prog 67 #[.string s, .func (.func 68) #[] #[]] w fun e w' => e = .returned (.int .i64 ((hdN ne10 (bl s) : Nat) : Int)) ∧ w = w' := by
  obtain ⟨p, hpp⟩ : ∃ p, ne10 = p := ⟨_, rfl⟩
  have HF := Lib.hid (show ∀ c : Nat, c < 256 → ∀ w, Calls Tryd.prog 68 #[.int .u8 (c : Int)] w fun e w' => e = .returned (.bool (p c)) ∧ w = w' from hpp ▸ skip_1_p)
  rw [hpp]
  have HL := Lib.hid hs
  obtain ⟨n, hn⟩ : ∃ n, hdN p (bl s) = n := ⟨_, rfl⟩
  rw [hn]
  have HN := Lib.hid hn
  clear hn hs hpp
  go_enter Tryd.func67, Tryd.ntmps67
  go_wp2_with fail
  go_loopw [8] (fun j wr => ∃ i : Nat, i ≤ s.size ∧ j = .int .i64 (i : Int) ∧ i + hdN p ((bl s).drop i) = n ∧ wr = w) (fun j _ => s.size - (intOf j).toNat)
  case atStart => exact ⟨0, by omega, by first | trivial | rfl, by rw [List.drop_zero, Nat.zero_add]; exact HN.out, rfl⟩
  case round =>
    obtain ⟨i, hi, rfl, hr, rfl⟩ := hrel
    have hs := HL.out
    by_cases hlt : i < s.size
    · have hi1 : (i : Int) < (s.size : Int) := by omega
      have hb := bl_drop hlt
      have hc := s[i].toNat_lt
      obtain ⟨c, hcc⟩ : ∃ c, s[i].toNat = c := ⟨_, rfl⟩
      rw [hcc] at hb hc
      rw [hb] at hr
      have HC := Lib.hid (HF.out c hc)
      cases hp : p c with
      | true =>
        rw [hp] at HC
        rw [hdN_yes hp] at hr
        have HR := Lib.hid (show i + 1 + hdN p ((bl s).drop (i + 1)) = n by omega)
        clear hb hr hp
        go_wp2_with fail
        refine (HC.out _).mono ?_
        rintro e w' ⟨rfl, rfl⟩
        go_wp2_with fail
        go_roundw
        case rel => exact ⟨i + 1, by omega, by go_num, HR.out, by first | rfl | trivial⟩
        case measure => simp [intOf]; omega
      | false =>
        rw [hp] at HC
        rw [hdN_no hp] at hr
        obtain rfl : i = n := by omega
        clear hb hp hr
        go_wp2_with fail
        refine (HC.out _).mono ?_
        rintro e w' ⟨rfl, rfl⟩
        go_wp2_with fail
        go_ret
        exact ⟨rfl, rfl⟩
    · obtain rfl : i = s.size := by omega
      have e : (bl s).drop s.size = [] := List.drop_eq_nil_of_le (by rw [bl_len]; exact Nat.le_refl _)
      rw [e] at hr
      have hr2 : s.size = n := hr
      clear hr e hlt
      go_wp2_with fail
      go_ret
      exact ⟨by simp [hr2], rfl⟩

end Go.Proofs.YtgckopicmobbgaaDoor
