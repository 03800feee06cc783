/- The specification: texts of their kinds; words. -/
import Derived.Test.YtgckopicmobbgaaDoorLxU
import Derived.Test.YtgckopicmobbgaaDoorLxZ
import Derived.Test.YtgckopicmobbgaaDoorLxN
import Derived.WalkKit
import Derived.WalkSpells
import Derived.WalkLawsBesides
import Derived.Handy
import Derived.Deep.QuietTactic
import Derived.BigQuiet
import Derived.Outline
import Derived.Laws.BitsAllLaws
import Derived.IntWalk
import Derived.Lib.SmallJoins
import Derived.Lib.Hide
import Derived.Deep.DeepCutAuto
import Derived.LoopTactic
import Derived.Deep.RegionWith
import Derived.Lib.ConvBytes
import Derived.OwnWalk
import Derived.Laws.MakeOwn
import Derived.Laws.IdiomStrings
namespace Go.Proofs.YtgckopicmobbgaaDoor
set_option linter.unusedVariables false
set_option linter.unusedSimpArgs false
open Go.RowKit Lex

theorem RowS.shape {w : World} {R : Nat} {v : Value} {l : List (List Nat)} (h : RowS w R v l) (hl : 0 < l.length) : ∃ g cap, v = .slice (some ⟨g, 0, none⟩) l.length cap ∧ g < w.heap.size ∧ ∀ i, i < l.length → w.cell? ⟨g, i, none⟩ = some (.string (mk (l.getD i []))) := by
  rcases h.2 with ⟨_, h1⟩ | ⟨g, cap, cur, h0, hHL, hLc, hcl, hcm, hcs, htk⟩
  · omega
  · refine ⟨g, cap, h0, (Array.getElem?_eq_some_iff.1 hLc).1, fun i hi => ?_⟩
    have e : (strCl l)[i]? = some (.string (mk (l.getD i []))) := by
      unfold strCl
      rw [List.getElem?_map, List.getElem?_eq_getElem hi, List.getD_eq_getElem?_getD, List.getElem?_eq_getElem hi]
      rfl
    rw [Joins.cell_of_block hLc, ← e, ← htk, List.getElem?_take, if_pos (by omega), Array.getElem?_toList]
set_option maxRecDepth 20000 in
set_option maxHeartbeats 1000000 in
theorem rtext (k : Nat) (hk : k ≤ 3) (s : ByteArray) (hs : s.size ≤ 1000000) (w : World) : Calls Tryd.prog 49 #[.int .i64 (k : Int), .string s] w fun e w' => e = .returned (.bool (fitB k (bl s))) ∧ Below w.heap.size w w' := by
  rw [← fit_eq k hk]
  have he := empty_iff s
  have hlen := bl_len s
  unfold fitR
  by_cases h3 : k = 3
  · rw [if_pos h3]
    obtain ⟨r, hr⟩ : ∃ r, (bl s).isEmpty = r := ⟨_, rfl⟩
    rw [hr] at he ⊢
    subst h3
    clear hr hlen
    go_enter Tryd.func49, Tryd.ntmps49
    go_wp2_with fail
    go_ret
    exact ⟨rfl, Below.refl _ _⟩
  · rw [if_neg h3]
    have k3 : ((k : Int) == 3) = false := by rw [beq_eq_false_iff_ne]; omega
    have k3' : ¬ (k : Int) = 3 := by omega
    cases h0 : (bl s).isEmpty with
    | true =>
      rw [h0] at he
      clear h3 hlen
      go_enter Tryd.func49, Tryd.ntmps49
      go_wp2_with fail
      go_ret
      exact ⟨rfl, Below.refl _ _⟩
    | false =>
      rw [h0] at he
      have hp := len_pos h0
      rw [hlen] at hp ⊢
      have hn := rnext s hs 0 hp w
      rw [List.drop_zero] at hn
      have hzz : ∀ c : Nat, (if c = 0 then (0 : Int) else ((0 + (nxt (bl s)).2.2.1 : Nat) : Int)) = (if c = 0 then (0 : Int) else ((0 + (nxt (bl s)).2.2.1 : Nat) : Int)) := fun _ => rfl
      unfold rnv at hn
      obtain ⟨x, hx⟩ : ∃ x, (if (nxt (bl s)).2.2.2 = 0 then (0 : Int) else ((0 + (nxt (bl s)).2.2.1 : Nat) : Int)) = x := ⟨_, rfl⟩
      rw [hx] at hn
      obtain ⟨c, hc⟩ : ∃ c, (nxt (bl s)).2.2.2 = c := ⟨_, rfl⟩
      obtain ⟨kd, hkd⟩ : ∃ kd, (nxt (bl s)).1 = kd := ⟨_, rfl⟩
      obtain ⟨n, hnn⟩ : ∃ n, (nxt (bl s)).2.1 = n := ⟨_, rfl⟩
      rw [hc, hkd, hnn] at hn ⊢
      have HN := Lib.hid hn
      obtain ⟨z, hz⟩ : ∃ z, s.size = z := ⟨_, rfl⟩
      clear hn hx hc hkd hnn h0 h3 hlen hp hzz hs
      go_enter Tryd.func49, Tryd.ntmps49
      go_wp2_with fail
      refine HN.out.mono ?_
      rintro e W1 ⟨rfl, hb⟩
      have HB := Lib.hid hb
      clear hb
      go_wp2_with fail
      all_goals
        go_ret
        exact ⟨ret_bool (by simp <;> omega), HB.out⟩

set_option maxRecDepth 20000 in
theorem samewords_ok (l : List (List Nat)) (hl : 0 < l.length) (hll : l.length ≤ 1000) (g p : Nat) (cap cap' : Nat) (w : World) (hL : ∀ i, i < l.length → w.cell? ⟨g, i, none⟩ = some (.string (mk (l.getD i [])))) (hL' : ∀ i, i < l.length → w.cell? ⟨p, i, none⟩ = some (.string (mk (l.getD i [])))) : Calls Tryd.prog 22 #[.slice (some ⟨g, 0, none⟩) l.length cap, .slice (some ⟨p, 0, none⟩) l.length cap'] w fun e w' => e = .returned (.bool true) ∧ Below w.heap.size w w' := by
  have HL := Lib.hid hL
  have HL' := Lib.hid hL'
  obtain ⟨n, hn⟩ : ∃ n, l.length = n := ⟨_, rfl⟩
  rw [hn] at hl hll HL HL' ⊢
  clear hL hL' hn
  go_enter Tryd.func22, Tryd.ntmps22
  go_wp2_with fail
  go_loopw [5] (fun j wr => ∃ i : Nat, i ≤ n ∧ j = .int .i64 (i : Int) ∧ ∃ d, wr = w.drewN d) (fun j _ => n - (intOf j).toNat)
  case atStart => exact ⟨0, by omega, by first | trivial | rfl, 0, rfl⟩
  case round =>
    obtain ⟨i, hi, rfl, d, rfl⟩ := hrel
    by_cases hlt : i < n
    · have hi1 : (i : Int) < (n : Int) := by omega
      have hi0 : (0 : Int) ≤ (i : Int) := by omega
      have x0 := HL.out i hlt
      have y0 := HL'.out i hlt
      obtain ⟨t, ht⟩ : ∃ t, mk (l.getD i []) = t := ⟨_, rfl⟩
      rw [ht] at x0 y0
      clear ht
      go_wp2_with fail
      go_quiet (fail)
      go_wp2_with fail
      go_roundw
      case rel => exact ⟨i + 1, by omega, by go_num, _, rfl⟩
      case measure => simp [intOf]; omega
    · obtain rfl : i = n := by omega
      clear hlt
      go_wp2_with fail
      go_ret
      exact ⟨rfl, below_dn _ (Below.refl _ _)⟩

end Go.Proofs.YtgckopicmobbgaaDoor
