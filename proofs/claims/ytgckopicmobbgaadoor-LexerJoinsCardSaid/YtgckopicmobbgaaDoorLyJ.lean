/- The specification: apart. -/
import Derived.Test.YtgckopicmobbgaaDoorLxY
import Derived.Test.YtgckopicmobbgaaDoorLyP
import Derived.WalkKit
import Derived.WalkSpells
import Derived.WalkLawsBesides
import Derived.Handy
import Derived.Deep.QuietTactic
import Derived.BigQuiet
import Derived.Outline
import Derived.Laws.BitsAllLaws
import Derived.IntWalk
import Derived.Lib.SmallJoins
import Derived.Lib.Hide
import Derived.Deep.DeepCutAuto
import Derived.LoopTactic
import Derived.Deep.RegionWith
import Derived.Lib.ConvBytes
import Derived.OwnWalk
import Derived.Laws.MakeOwn
import Derived.Laws.IdiomStrings
import Derived.Deep.RegionHeld3
namespace Go.Proofs.YtgckopicmobbgaaDoor
set_option linter.unusedVariables false
set_option linter.unusedSimpArgs false
open Go.RowKit Lex

theorem head_at {s : ByteArray} (h : 0 < s.size) : (bl s).headD 0 = (s[0]'h).toNat := by
  have := bl_drop h
  rw [List.drop_zero] at this
  rw [this]
  rfl
set_option maxRecDepth 20000 in
set_option maxHeartbeats 2000000 in
theorem rapart (s t : ByteArray) (hs : s.size ≤ 1000000) (ht : t.size ≤ 1000000) (w : World) : Calls Tryd.prog 50 #[.string s, .string t] w fun e w' => e = .returned (.bool (apB (bl s) (bl t))) ∧ w = w' := by
  have he := empty_iff s
  have hf := empty_iff t
  have h60 := lit_eq s 60
  rw [show (60 : UInt8).toNat = 60 from rfl] at h60
  have HW1 := Lib.hid (fun w => rword s hs 0 (Nat.zero_le _) w)
  have HW2 := Lib.hid (fun w => rword t ht 0 (Nat.zero_le _) w)
  rw [List.drop_zero] at HW1 HW2
  unfold apB
  cases hse : (bl s).isEmpty with
  | true =>
    rw [hse] at he
    clear h60 hf hse
    go_enter Tryd.func50, Tryd.ntmps50
    go_wp2_with fail
    go_ret
    exact ⟨rfl, rfl⟩
  | false =>
    rw [hse] at he
    cases hte : (bl t).isEmpty with
    | true =>
      rw [hte] at hf
      clear h60 hse hte
      go_enter Tryd.func50, Tryd.ntmps50
      go_wp2_with fail
      go_ret
      exact ⟨rfl, rfl⟩
    | false =>
      rw [hte] at hf
      have hp := len_pos hte
      rw [bl_len] at hp
      have hh := head_at hp
      rw [hh]
      obtain ⟨c, hcc⟩ : ∃ c, (t[0]'hp).toNat = c := ⟨_, rfl⟩
      obtain ⟨n, hn⟩ : ∃ n, hdN isWrd (bl s) = n := ⟨_, rfl⟩
      obtain ⟨m, hm⟩ : ∃ m, hdN isWrd (bl t) = m := ⟨_, rfl⟩
      rw [hn] at HW1 ⊢
      rw [hm] at HW2 ⊢
      rw [hcc]
      clear hh hn hm hse hte
      cases hx : decide (bl s = [60]) with
      | true =>
        rw [hx] at h60
        by_cases h61 : c = 61
        · subst h61
          clear hx
          go_enter Tryd.func50, Tryd.ntmps50
          go_wp2_with fail
          go_ret
          exact ⟨rfl, rfl⟩
        · have e1 : ((c : Int) == 61) = false := by rw [beq_eq_false_iff_ne]; omega
          have e2 : ¬ (c : Int) = 61 := by omega
          rw [decide_eq_false h61]
          by_cases hn0 : 0 < n
          · have n1 : (0 : Int) < (n : Int) := by omega
            by_cases hm0 : 0 < m
            · have m1 : (0 : Int) < (m : Int) := by omega
              clear hx
              go_enter Tryd.func50, Tryd.ntmps50
              go_wp2_with fail
              refine (HW1.out _).mono ?_
              rintro e w' ⟨rfl, rfl⟩
              go_wp2_with fail
              refine (HW2.out _).mono ?_
              rintro e w' ⟨rfl, rfl⟩
              go_wp2_with fail
              go_ret
              exact ⟨ret_bool (by simp [hn0, hm0]), rfl⟩
            · have m1 : ¬ (0 : Int) < (m : Int) := by omega
              obtain rfl : m = 0 := by omega
              clear hx
              go_enter Tryd.func50, Tryd.ntmps50
              go_wp2_with fail
              refine (HW1.out _).mono ?_
              rintro e w' ⟨rfl, rfl⟩
              go_wp2_with fail
              refine (HW2.out _).mono ?_
              rintro e w' ⟨rfl, rfl⟩
              go_wp2_with fail
              go_ret
              exact ⟨ret_bool (by simp), rfl⟩
          · obtain rfl : n = 0 := by omega
            clear hx
            go_enter Tryd.func50, Tryd.ntmps50
            go_wp2_with fail
            refine (HW1.out _).mono ?_
            rintro e w' ⟨rfl, rfl⟩
            go_wp2_with fail
            go_ret
            exact ⟨ret_bool (by simp), rfl⟩
      | false =>
        rw [hx] at h60
        by_cases hn0 : 0 < n
        · have n1 : (0 : Int) < (n : Int) := by omega
          by_cases hm0 : 0 < m
          · have m1 : (0 : Int) < (m : Int) := by omega
            clear hx
            go_enter Tryd.func50, Tryd.ntmps50
            go_wp2_with fail
            refine (HW1.out _).mono ?_
            rintro e w' ⟨rfl, rfl⟩
            go_wp2_with fail
            refine (HW2.out _).mono ?_
            rintro e w' ⟨rfl, rfl⟩
            go_wp2_with fail
            go_ret
            exact ⟨ret_bool (by simp [hn0, hm0]), rfl⟩
          · have m1 : ¬ (0 : Int) < (m : Int) := by omega
            obtain rfl : m = 0 := by omega
            clear hx
            go_enter Tryd.func50, Tryd.ntmps50
            go_wp2_with fail
            refine (HW1.out _).mono ?_
            rintro e w' ⟨rfl, rfl⟩
            go_wp2_with fail
            refine (HW2.out _).mono ?_
            rintro e w' ⟨rfl, rfl⟩
            go_wp2_with fail
            go_ret
            exact ⟨ret_bool (by simp), rfl⟩
        · obtain rfl : n = 0 := by omega
          clear hx
          go_enter Tryd.func50, Tryd.ntmps50
          go_wp2_with fail
          refine (HW1.out _).mono ?_
          rintro e w' ⟨rfl, rfl⟩
          go_wp2_with fail
          go_ret
          exact ⟨ret_bool (by simp), rfl⟩

end Go.Proofs.YtgckopicmobbgaaDoor
