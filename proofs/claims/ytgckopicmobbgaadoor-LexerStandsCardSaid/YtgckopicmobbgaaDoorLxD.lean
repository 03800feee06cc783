/- isNumber. -/
import Derived.Test.YtgckopicmobbgaaDoorLxC
import Derived.WalkKit
import Derived.WalkSpells
import Derived.WalkLawsBesides
import Derived.Handy
import Derived.Deep.QuietTactic
import Derived.BigQuiet
import Derived.Outline
import Derived.Laws.BitsAllLaws
import Derived.IntWalk
import Derived.Lib.SmallJoins
import Derived.Lib.Hide
import Derived.Deep.DeepCutAuto
import Derived.LoopTactic
import Derived.Deep.RegionWith
import Derived.Lib.ConvBytes
namespace Go.Proofs.YtgckopicmobbgaaDoor
set_option linter.unusedVariables false
set_option linter.unusedSimpArgs false
open Go.RowKit Lex

theorem bcell {W w1 : World} (hb : Below W.heap.size W w1) : (∀ b o, b < W.heap.size → w1.cell? ⟨b, o, none⟩ = W.cell? ⟨b, o, none⟩) ∧ (∀ b o, b < W.heap.size → w1.frozen? ⟨b, o, none⟩ = W.frozen? ⟨b, o, none⟩) :=
  ⟨fun b o h => hb.cell (p := ⟨b, o, none⟩) h, fun b o h => hb.frozen (p := ⟨b, o, none⟩) h⟩
theorem conv_bytes (s : ByteArray) (w : World) : ∃ W1 cap, (convert 9 55 (.string s)).run Tryd.prog w = .ok (.slice (some ⟨w.heap.size, 0, none⟩) s.size cap) W1 ∧ Below w.heap.size w W1 ∧ w.heap.size < W1.heap.size ∧ ∀ i, (h : i < s.size) → W1.cell? ⟨w.heap.size, i, none⟩ = some (.int .u8 (s[i].toNat : Int)) := by
  refine ⟨_, _, Lib.run_convert_string_bytes w 9 55 5 s Tryd.underlying9 Tryd.underlying55 Tryd.underlying5, ⟨rfl, rfl, rfl, ?_, fun k hk => Lib.bytesWorld_at_old w _ s k hk⟩, ?_, fun i h => ?_⟩
  · rw [Lib.bytesWorld_size]; omega
  · rw [Lib.bytesWorld_size]; omega
  · rw [Lib.bytesWorld_cell w _ s i h]
    congr 3
    rw [List.getD_eq_getElem?_getD, Array.getElem?_toList, Array.getElem?_eq_getElem (show i < s.data.size from h)]
    rfl
theorem empty_iff (s : ByteArray) : s.toList.isEmpty = (bl s).isEmpty := by
  rw [ByteArray.toList_eq]
  unfold bl
  cases s.data.toList <;> rfl
set_option maxRecDepth 100000 in
set_option maxHeartbeats 1000000 in
theorem isNumber_p (s : ByteArray) (hs : s.size ≤ 1000000) (w : World) : Calls Tryd.prog 73 #[.string s] w fun e w' => e = .returned (.bool (numB (bl s))) ∧ Below w.heap.size w w' := by
  have HR := Lib.hid (run_dig s hs w)
  obtain ⟨r, hr⟩ : ∃ r, numB (bl s) = r := ⟨_, rfl⟩
  rw [hr]
  unfold numB at hr
  have he := empty_iff s
  have hlen := bl_len s
  cases h0 : (bl s).isEmpty with
  | true =>
    rw [h0] at hr he
    have hr2 : r = false := by rw [← hr]; rfl
    subst hr2
    clear hr h0 hlen HR
    go_enter Tryd.func73, Tryd.ntmps73
    go_wp2_with fail
    go_ret
    exact ⟨rfl, Below.refl _ _⟩
  | false =>
    rw [h0] at hr he
    have hle := hdN_le isDig (bl s)
    rw [hlen] at hle hr
    by_cases hd : hdN isDig (bl s) = s.size
    · rw [decide_eq_true hd] at hr
      have HDg := Lib.hid (dig_all (bl s) (by rw [hlen]; exact hd))
      rw [hd] at HR
      obtain ⟨W1, cap, hcv, hb1, hlt1, hcl⟩ := conv_bytes s w
      have HB := Lib.hid hb1
      have HCl := Lib.hid hcl
      have HV := Lib.hid (show (valN 0 (bl s)).isSome = r by rw [← hr]; rfl)
      have HS := Lib.hid hs
      clear hr h0 hd hle hlen hb1 hcl
      go_enter Tryd.func73, Tryd.ntmps73
      go_wp2_with fail
      refine HR.out.mono ?_
      rintro e w' ⟨rfl, rfl⟩
      go_wp2_with fail
      go_loopw [3, 18] (fun v j wr => ∃ i x : Nat, i ≤ s.size ∧ x ≤ 1048576 ∧ j = .int .i64 (i : Int) ∧ v = .int .i64 (x : Int) ∧ (valN x ((bl s).drop i)).isSome = r ∧ wr = W1) (fun _ j _ => s.size - (intOf j).toNat)
      case atStart => exact ⟨0, 0, by omega, by omega, by first | trivial | rfl, by first | trivial | rfl, by rw [List.drop_zero]; exact HV.out, rfl⟩
      case round =>
        obtain ⟨i, x, hi, hx, rfl, rfl, hv, rfl⟩ := hrel
        have hs := HS.out
        by_cases hlt : i < s.size
        · have hi1 : (i : Int) < (s.size : Int) := by omega
          have hc := HCl.out i hlt
          have hb := bl_drop hlt
          obtain ⟨c, hcc⟩ : ∃ c, s[i].toNat = c := ⟨_, rfl⟩
          rw [hcc] at hc hb
          have hdc := HDg.out c (List.mem_of_mem_drop (hb ▸ List.mem_cons_self))
          have h48 : 48 ≤ c ∧ c ≤ 57 := by unfold isDig at hdc; simpa using hdc
          rw [hb, valN_cons] at hv
          have hw1 : IntKind.u8.wrap ((c : Int) - 48) = ((c - 48 : Nat) : Int) := by
            have h1 := h48.1
            have h2 := h48.2
            have e : ((c : Int) - 48) = ((c - 48 : Nat) : Int) := by omega
            rw [e]
            have h3 : c - 48 < 256 := by omega
            generalize c - 48 = d at h3
            show ((d : Int) % 256) = _
            omega
          obtain ⟨d, hdd⟩ : ∃ d, c - 48 = d := ⟨_, rfl⟩
          rw [hdd] at hw1 hv
          have hd9 : d ≤ 9 := by omega
          have h48a := h48.1
          have h48b := h48.2
          have hw4 : (x : Int) * 10 + (d : Int) = ((10 * x + d : Nat) : Int) := by omega
          have HV2 := Lib.hid hv
          clear hb hdc h48 hv hdd hcc
          by_cases hgt : 1048576 < 10 * x + d
          · have hv2 := HV2.out
            rw [if_pos hgt] at hv2
            have hrf : r = false := by rw [← hv2]; rfl
            subst hrf
            have hg1 : (1048576 : Int) < ((10 * x + d : Nat) : Int) := by omega
            clear hv2 hgt HV
            go_wp2_with fail
            go_ret
            exact ⟨rfl, HB.out⟩
          · have hv2 := HV2.out
            rw [if_neg hgt] at hv2
            have HV3 := Lib.hid hv2
            have hg1 : ¬ (1048576 : Int) < ((10 * x + d : Nat) : Int) := by omega
            clear hv2 HV HV2
            go_wp2_with fail
            go_roundw
            case rel => exact ⟨i + 1, 10 * x + d, by omega, by omega, by go_num, by first | rfl | go_num, HV3.out, by first | rfl | trivial⟩
            case measure => simp [intOf]; omega
        · obtain rfl : i = s.size := by omega
          have e : (bl s).drop s.size = [] := List.drop_eq_nil_of_le (by rw [bl_len]; exact Nat.le_refl _)
          rw [e] at hv
          have hrt : r = true := by rw [← hv]; rfl
          subst hrt
          clear hv e hlt HV
          go_wp2_with fail
          go_ret
          exact ⟨rfl, HB.out⟩
    · have hrf : r = false := by rw [← hr, decide_eq_false hd]; rfl
      subst hrf
      obtain ⟨n, hn⟩ : ∃ n, hdN isDig (bl s) = n := ⟨_, rfl⟩
      rw [hn] at HR hd hle
      have hni : (n : Int) < (s.size : Int) := by omega
      clear hr h0 hd hlen hn
      go_enter Tryd.func73, Tryd.ntmps73
      go_wp2_with fail
      refine HR.out.mono ?_
      rintro e w' ⟨rfl, rfl⟩
      go_wp2_with fail
      go_ret
      exact ⟨rfl, Below.refl _ _⟩

end Go.Proofs.YtgckopicmobbgaaDoor
