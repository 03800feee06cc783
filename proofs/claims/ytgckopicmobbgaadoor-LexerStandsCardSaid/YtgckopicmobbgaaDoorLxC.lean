/- skip: separators. -/
import Derived.Test.YtgckopicmobbgaaDoorLxA
import Derived.Test.YtgckopicmobbgaaDoorShelA
import Derived.WalkKit
import Derived.WalkSpells
import Derived.WalkLawsBesides
import Derived.Handy
import Derived.Deep.QuietTactic
import Derived.BigQuiet
import Derived.Outline
import Derived.Laws.BitsAllLaws
import Derived.IntWalk
import Derived.Lib.SmallJoins
import Derived.Lib.Hide
import Derived.Deep.DeepCutAuto
import Derived.LoopTactic
import Derived.Deep.RegionWith
namespace Go.Proofs.YtgckopicmobbgaaDoor
set_option linter.unusedVariables false
set_option linter.unusedSimpArgs false
open Go.RowKit Lex

theorem idx_blank : ∀ c : Fin 256, (Lib.indexByte ({ data := #[32, 9, 13, 10] } : ByteArray).data.toList ((c.val : Int).toNat.toUInt8) ≥ 0) ↔ isBlk c.val = true := by decide +kernel
theorem blank_p (c : Nat) (hc : c < 256) (w : World) : Calls Tryd.prog 66 #[.string { data := #[32, 9, 13, 10] }, .int .u8 (c : Int)] w fun e w' => ∃ k : Int, e = .returned (.int .i64 k) ∧ (decide (k ≥ 0) = isBlk c) ∧ w = w' := by
  refine (Tryd.strings_IndexByte _ _ w).mono ?_
  rintro e w' ⟨rfl, rfl⟩
  refine ⟨_, rfl, ?_, rfl⟩
  have h := idx_blank ⟨c, hc⟩
  rw [Bool.eq_iff_iff, decide_eq_true_iff]
  exact h
set_option maxRecDepth 20000 in
set_option maxHeartbeats 1000000 in
theorem skip_p (s : ByteArray) (hs : s.size ≤ 1000000) (at0 : Nat) (hat : at0 ≤ s.size) (w : World) : Calls Tryd.prog 39 #[.string s, .int .i64 (at0 : Int)] w fun e w' => e = .returned (.int .i64 ((at0 + sepN false ((bl s).drop at0) : Nat) : Int)) ∧ w = w' := by
  have HL := Lib.hid hs
  have HB := Lib.hid (fun c hc w => blank_p c hc w)
  have HR := Lib.hid (fun t ht w => run_ne10 t ht w)
  obtain ⟨n, hn⟩ : ∃ n, at0 + sepN false ((bl s).drop at0) = n := ⟨_, rfl⟩
  rw [hn]
  have HN := Lib.hid hn
  have HAt := Lib.hid hat
  clear hn hs hat
  go_enter Tryd.func39, Tryd.ntmps39
  go_wp2_with fail
  go_loopw [1] (fun j wr => ∃ i : Nat, i ≤ s.size ∧ j = .int .i64 (i : Int) ∧ i + sepN false ((bl s).drop i) = n ∧ wr = w) (fun j _ => s.size - (intOf j).toNat)
  case atStart => exact ⟨at0, HAt.out, by first | trivial | rfl, HN.out, rfl⟩
  case round =>
    obtain ⟨i, hi, rfl, hr, rfl⟩ := hrel
    have hs := HL.out
    by_cases hlt : i < s.size
    · have hi1 : (i : Int) < (s.size : Int) := by omega
      have hb := bl_drop hlt
      have hc := s[i].toNat_lt
      obtain ⟨c, hcc⟩ : ∃ c, s[i].toNat = c := ⟨_, rfl⟩
      rw [hcc] at hb hc
      have HC := Lib.hid (HB.out c hc)
      cases hp : isBlk c with
      | true =>
        rw [hb, sep_blank _ hp] at hr
        rw [hp] at HC
        have HR2 := Lib.hid (show i + 1 + sepN false ((bl s).drop (i + 1)) = n by omega)
        clear hb hr hp HR
        go_wp2_with fail
        refine (HC.out _).mono ?_
        rintro e w' ⟨k, rfl, hk, rfl⟩
        have hk1 : (0 : Int) ≤ k := of_decide_eq_true hk
        clear hk
        go_wp2_with fail
        go_roundw
        case rel => exact ⟨i + 1, by omega, by go_num, HR2.out, by first | rfl | trivial⟩
        case measure => simp [intOf]; omega
      | false =>
        rw [hp] at HC
        by_cases h35 : c = 35
        · subst h35
          have hext : bl (s.extract i s.size) = (bl s).drop i := by
            rw [bl_extract, List.take_of_length_le (by rw [List.length_drop, bl_len]; exact Nat.le_refl _)]
          have hsz : (s.extract i s.size).size ≤ 1000000 := by rw [ByteArray.size_extract]; omega
          have H2 := HR.out _ hsz
          rw [hext, hb] at H2
          have h3 := sep_hash ((bl s).drop (i + 1))
          have hle := hdN_le ne10 (35 :: (bl s).drop (i + 1))
          rw [← hb, List.length_drop, bl_len] at hle
          have hpos : 0 < hdN ne10 (35 :: (bl s).drop (i + 1)) := by rw [hdN_yes (by decide)]; omega
          rw [hb] at hle
          rw [hb, h3, ← hb] at hr
          rw [← hb] at H2 hpos
          rw [← hb] at hle
          obtain ⟨m, hm⟩ : ∃ m, hdN ne10 ((bl s).drop i) = m := ⟨_, rfl⟩
          rw [hm] at H2 hr hle hpos
          rw [List.drop_drop] at hr
          have H2h := Lib.hid H2
          have HR2 := Lib.hid (show i + m + sepN false ((bl s).drop (i + m)) = n by omega)
          have hm1 : (i : Int) + (m : Int) ≤ 1000000 := by omega
          clear hb hr h3 hext hsz hp H2 hm HR
          go_wp2_with fail
          refine (HC.out _).mono ?_
          rintro e w' ⟨k, rfl, hk, rfl⟩
          have hk1 : k < 0 := by have := of_decide_eq_false hk; omega
          clear hk
          go_wp2_with fail
          refine (H2h.out _).mono ?_
          rintro e w' ⟨rfl, rfl⟩
          go_wp2_with fail
          go_roundw
          case rel => exact ⟨i + m, by omega, by go_num, HR2.out, by first | rfl | trivial⟩
          case measure => simp [intOf]; omega
        · rw [hb, sep_stop _ hp h35] at hr
          obtain rfl : i = n := by omega
          have h35' : ((c : Int) == 35) = false := by simp; omega
          have h35n : ¬ (c : Int) = 35 := by omega
          clear hb hr hp h35 HR
          go_wp2_with fail
          refine (HC.out _).mono ?_
          rintro e w' ⟨k, rfl, hk, rfl⟩
          have hk1 : k < 0 := by have := of_decide_eq_false hk; omega
          clear hk
          go_wp2_with fail
          go_ret
          exact ⟨rfl, rfl⟩
    · obtain rfl : i = s.size := by omega
      have e : (bl s).drop s.size = [] := List.drop_eq_nil_of_le (by rw [bl_len]; exact Nat.le_refl _)
      rw [e] at hr
      have hr2 : s.size = n := hr
      clear hr e hlt HR
      go_wp2_with fail
      go_ret
      exact ⟨by simp [hr2], rfl⟩

end Go.Proofs.YtgckopicmobbgaaDoor
