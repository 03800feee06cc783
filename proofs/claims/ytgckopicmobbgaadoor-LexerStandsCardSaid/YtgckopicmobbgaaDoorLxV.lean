/- The specification: Scan. -/
import Derived.Test.YtgckopicmobbgaaDoorLxU
import Derived.Test.YtgckopicmobbgaaDoorLxF
import Derived.WalkKit
import Derived.WalkSpells
import Derived.WalkLawsBesides
import Derived.Handy
import Derived.Deep.QuietTactic
import Derived.BigQuiet
import Derived.Outline
import Derived.Laws.BitsAllLaws
import Derived.IntWalk
import Derived.Lib.SmallJoins
import Derived.Lib.Hide
import Derived.Deep.DeepCutAuto
import Derived.LoopTactic
import Derived.Deep.RegionWith
import Derived.Lib.ConvBytes
import Derived.OwnWalk
import Derived.Laws.MakeOwn
import Derived.Laws.IdiomStrings
namespace Go.Proofs.YtgckopicmobbgaaDoor
set_option linter.unusedVariables false
set_option linter.unusedSimpArgs false
open Go.RowKit Lex

set_option maxRecDepth 100000 in
set_option maxHeartbeats 4000000 in
theorem rscan (s : ByteArray) (hs : s.size ≤ 1000000) (w : World) : Calls Tryd.prog 14 #[.string s] w (SRes (scanL (bl s)) w) := by
  have hlen := bl_len s
  by_cases hlong : 65536 < s.size
  · have HR := Lib.hid (show scanL (bl s) = ([], 0, 13) by unfold scanL; rw [hlen, if_pos hlong])
    have hl1 : (65536 : Int) < (s.size : Int) := by omega
    clear hlong hs hlen
    go_enter Tryd.func14, Tryd.ntmps14
    go_wp2_with fail
    exact bodyPost_ret (v := .tuple #[.slice none 0 0, .int .i64 0, .int .i64 13]) (by simp [results, Tryd.results14, go_sem]) rfl ⟨_, by rw [HR.out]; rfl, by rw [HR.out]; exact RowT.nil _ _, Below.refl _ _⟩
  have hl1 : ¬ (65536 : Int) < (s.size : Int) := by omega
  obtain ⟨r, hr⟩ : ∃ r, scanL (bl s) = r := ⟨_, rfl⟩
  rw [hr]
  unfold scanL at hr
  rw [hlen, if_neg hlong] at hr
  have HSk := Lib.hid (fun a ha w => rblank s hs a ha w)
  have HNx := Lib.hid (fun a ha w => rnext s hs a ha w)
  have hsep := sepN_le false (bl s)
  rw [hlen] at hsep
  have HS0 := HSk.out 0 (by omega) w
  rw [List.drop_zero, Nat.zero_add] at HS0
  obtain ⟨q0, hq0⟩ : ∃ q0, sepN false (bl s) = q0 := ⟨_, rfl⟩
  rw [hq0] at hr hsep HS0
  have HR := Lib.hid hr
  have HS := Lib.hid HS0
  have HL := Lib.hid (show s.size ≤ 65536 by omega)
  have HSp := Lib.hid hsep
  clear hlong hr hsep hq0 hlen HS0 hs
  go_enter Tryd.func14, Tryd.ntmps14
  go_wp2_with fail
  refine HS.out.mono ?_
  rintro e w' ⟨rfl, rfl⟩
  go_wp2_with fail
  go_loopw [5, 6] (fun v j wr => ∃ (k q : Nat) (acc : List Tk), q ≤ s.size ∧ s.size - q ≤ k ∧ acc.length ≤ q ∧ j = .int .i64 (q : Int) ∧ RowT wr w.heap.size v acc ∧ Below w.heap.size w wr ∧ scanF k q ((bl s).drop q) acc = r) (fun _ j _ => s.size - (intOf j).toNat)
  case atStart => exact ⟨s.size, q0, [], HSp.out, by omega, by simp, by first | trivial | rfl, RowT.nil _ _, Below.refl _ _, HR.out⟩
  case round =>
    obtain ⟨k, q, acc, hq, hk, hacc, rfl, hrow, hbe, hsc⟩ := hrel
    have hl := HL.out
    by_cases hlt : q < s.size
    · have hq1 : (q : Int) < (s.size : Int) := by omega
      obtain ⟨k, rfl⟩ : ∃ k', k = k' + 1 := ⟨k - 1, by omega⟩
      have hDl : ((bl s).drop q).length = s.size - q := by rw [List.length_drop, bl_len]
      have hne : (bl s).drop q ≠ [] := by intro e; rw [e] at hDl; simp at hDl; omega
      have hnl := nxt_le ((bl s).drop q)
      have hN := HNx.out q hlt wr
      have hdd : ∀ m, ((bl s).drop q).drop m = (bl s).drop (q + m) := fun m => by rw [List.drop_drop]
      have HNp := Lib.hid (nxt_pos ((bl s).drop q))
      by_cases herr : (nxt ((bl s).drop q)).2.2.2 = 0
      · rw [scanF_next hne herr] at hsc
        unfold rnv at hN
        rw [if_pos herr, herr] at hN
        have hpos := HNp.out herr
        rw [hdd] at hsc
        rw [hDl] at hnl
        obtain ⟨n, hn⟩ : ∃ n, (nxt ((bl s).drop q)).2.1 = n := ⟨_, rfl⟩
        obtain ⟨kd, hkd⟩ : ∃ kd, (nxt ((bl s).drop q)).1 = kd := ⟨_, rfl⟩
        rw [hn] at hsc hN hnl hpos
        rw [hkd] at hsc hN
        have hS2 := HSk.out (q + n) (by omega)
        have hsl := sepN_le false ((bl s).drop (q + n))
        rw [List.length_drop, bl_len] at hsl
        obtain ⟨tx, htx⟩ : ∃ tx, ((bl s).drop q).take n = tx := ⟨_, rfl⟩
        have hext : s.extract q (q + n) = mk tx := by rw [ext_mk, Nat.add_sub_cancel_left, htx]
        rw [htx] at hsc
        obtain ⟨m, hm⟩ : ∃ m, sepN false ((bl s).drop (q + n)) = m := ⟨_, rfl⟩
        rw [hm] at hsc hS2 hsl
        rw [hdd] at hsc
        have HN := Lib.hid hN
        have HS2 := Lib.hid hS2
        have HSc := Lib.hid (show scanF k (q + n + m) ((bl s).drop (q + n + m)) (acc ++ [⟨kd, tx, q⟩]) = r by rw [Nat.add_assoc]; exact hsc)
        have HRow := Lib.hid hrow
        have HBe := Lib.hid hbe
        have hb1 : (q : Int) + (n : Int) ≤ 65536 := by omega
        have hb2 : (q : Int) + (n : Int) ≤ (s.size : Int) := by omega
        have hqn : (q : Int) + (n : Int) = ((q + n : Nat) : Int) := by omega
        have HQn := Lib.hid hqn
        obtain ⟨tb, htb⟩ : ∃ tb, mk tx = tb := ⟨_, rfl⟩
        have HTb := Lib.hid htb
        rw [htb] at hext
        clear hsc hN hne herr hDl hn hkd hS2 htx hm hrow hbe hdd hqn htb HNp
        go_wp2_with fail
        refine (HN.out).mono ?_
        rintro e W1 ⟨rfl, hb⟩
        have HB1 := Lib.hid (HBe.out.trans (Joins.below_le hb HBe.out.size))
        have HRow1 := Lib.hid (HRow.out.below hb)
        clear hb HN HRow
        go_wp2_with (at_builtin; refine app_tk _ rfl _ _ rfl w.heap.size _ acc rfl (HRow1.out.alloc _) W1.heap.size ⟨kd, tx, q⟩ rfl ?hbk (by omega) ?hRk ?_)
        case hbk =>
          show _ = some (Obj.cells #[.int .i64 (kd : Int), .string (mk tx), .int .i64 (q : Int)] 32 (0, 0))
          rw [HTb.out]
          exact newblock _ _
        case hRk => have := HB1.out.size; simp at *; omega
        intro g cap w2 hr2 hb2 hg hkeep hsz
        have HR2 := Lib.hid hr2
        have HB2 := Lib.hid ((HB1.out.alloc HB1.out.size _).trans hb2)
        clear hr2 hb2 hg hkeep hsz
        go_wp2_with fail
        refine (HS2.out _).mono ?_
        rintro e w' ⟨rfl, rfl⟩
        go_wp2_with fail
        go_roundw
        case rel => exact ⟨k, q + n + m, acc ++ [⟨kd, tx, q⟩], by omega, by omega, by simp; omega, by first | rfl | go_num, HR2.out, HB2.out, HSc.out⟩
        case measure => simp [intOf]; omega
      · rw [scanF_err hne herr] at hsc
        unfold rnv at hN
        rw [if_neg herr] at hN
        obtain ⟨o, ho⟩ : ∃ o, (nxt ((bl s).drop q)).2.2.1 = o := ⟨_, rfl⟩
        obtain ⟨c, hc⟩ : ∃ c, (nxt ((bl s).drop q)).2.2.2 = c := ⟨_, rfl⟩
        rw [ho, hc] at hsc hN
        rw [hc] at herr
        have HN := Lib.hid hN
        have HSc := Lib.hid hsc
        have HBe := Lib.hid hbe
        have hc1 : ((c : Int) != 0) = true := by rw [bne_iff_ne]; omega
        have hc2 : ¬ (c : Int) = 0 := by omega
        clear hsc hN hne hnl hDl ho hc hrow hbe hdd HNp herr
        go_wp2_with fail
        refine (HN.out).mono ?_
        rintro e W1 ⟨rfl, hb⟩
        have HB1 := Lib.hid (HBe.out.trans (Joins.below_le hb HBe.out.size))
        clear hb HN
        go_wp2_with fail
        exact bodyPost_ret (v := .tuple #[.slice none 0 0, .int .i64 ((q + o : Nat) : Int), .int .i64 (c : Int)]) (by simp [results, Tryd.results14, go_sem]) rfl (by rw [← HSc.out]; exact ⟨_, rfl, RowT.nil _ _, HB1.out⟩)
    · obtain rfl : q = s.size := by omega
      have e : (bl s).drop s.size = [] := List.drop_eq_nil_of_le (by rw [bl_len]; exact Nat.le_refl _)
      rw [e, scanF_end] at hsc
      have HSc := Lib.hid hsc
      have HRow := Lib.hid hrow
      have HBe := Lib.hid hbe
      clear hsc hrow hbe e hlt
      go_wp2_with (at_builtin; refine app_tk _ rfl _ _ rfl w.heap.size _ acc rfl (HRow.out.alloc _) wr.heap.size ⟨3, [], s.size⟩ rfl ?hbk (by omega) ?hRk ?_)
      case hbk => exact newblock _ _
      case hRk => have := HBe.out.size; simp; omega
      intro g cap w2 hr2 hb2 hg hkeep hsz
      have HR2 := Lib.hid hr2
      have HB2 := Lib.hid ((HBe.out.alloc HBe.out.size _).trans hb2)
      clear hr2 hb2 hg hkeep hsz
      go_wp2_with fail
      exact bodyPost_ret (v := .tuple #[.slice (some ⟨g, 0, none⟩) (acc.length + 1) cap, .int .i64 0, .int .i64 0]) (by simp [results, Tryd.results14, go_sem]) rfl ⟨_, by rw [← HSc.out]; rfl, by rw [← HSc.out]; exact HR2.out, HB2.out⟩

end Go.Proofs.YtgckopicmobbgaaDoor
