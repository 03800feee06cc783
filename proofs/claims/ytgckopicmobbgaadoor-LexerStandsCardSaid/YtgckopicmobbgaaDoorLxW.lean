/- LexerScans. -/
import Derived.Test.YtgckopicmobbgaaDoorLxV
import Derived.Test.YtgckopicmobbgaaDoorLxO
import Derived.WalkKit
import Derived.WalkSpells
import Derived.WalkLawsBesides
import Derived.Handy
import Derived.Deep.QuietTactic
import Derived.BigQuiet
import Derived.Outline
import Derived.Laws.BitsAllLaws
import Derived.IntWalk
import Derived.Lib.SmallJoins
import Derived.Lib.Hide
import Derived.Deep.DeepCutAuto
import Derived.LoopTactic
import Derived.Deep.RegionWith
import Derived.Lib.ConvBytes
import Derived.OwnWalk
import Derived.Laws.MakeOwn
import Derived.Laws.IdiomStrings
namespace Go.Proofs.YtgckopicmobbgaaDoor
set_option linter.unusedVariables false
set_option linter.unusedSimpArgs false
open Go.RowKit Lex

def smB (n : Nat) : Bool := decide (n ≤ 400) || (decide (65536 < n) && decide (n ≤ 65539))
theorem smB_le {n : Nat} (h : smB n = true) : n ≤ 65539 := by
  unfold smB at h
  simp at h
  omega
theorem small_l (s : ByteArray) (w : World) : Calls Tryd.prog 11 #[.string s] w fun e w' => e = .returned (.bool (smB s.size)) ∧ w = w' := by
  unfold smB
  obtain ⟨n, hn⟩ : ∃ n, s.size = n := ⟨_, rfl⟩
  go_enter Tryd.func11, Tryd.ntmps11
  go_wp2_with fail
  all_goals
    go_ret
    exact ⟨ret_bool (by simp <;> omega), rfl⟩

set_option maxRecDepth 100000 in
set_option maxHeartbeats 4000000 in
theorem scans_ok (s : ByteArray) (w : World) (hG : WG w) : Calls Tryd.prog 3 #[.string s] w fun e w' => e = .returned (.bool true) ∧ Below w.heap.size w w' := by
  have G := Lib.hid hG
  have HSm := Lib.hid (small_l s)
  cases hsm : smB s.size with
  | false =>
    rw [hsm] at HSm
    clear hsm hG
    go_enter Tryd.func3, Tryd.ntmps3
    go_wp2_with fail
    refine (HSm.out _).mono ?_
    rintro e w' ⟨rfl, rfl⟩
    go_wp2_with fail
    refine (awake_ok _ G.out).mono ?_
    rintro e W1 ⟨rfl, hb⟩
    have B := Lib.hid hb
    clear hb
    go_wp2_with fail
    go_ret
    exact ⟨rfl, B.out⟩
  | true =>
    rw [hsm] at HSm
    have hs := smB_le hsm
    have HA := Lib.hid (fun W h => scan_any s (by omega) W h)
    have HB := Lib.hid (fun W => rscan s (by omega) W)
    have hll : (scanL (bl s)).1.length ≤ 1000000 := scanL_len (bl s) (by rw [bl_len]; omega)
    obtain ⟨r, hr⟩ : ∃ r, scanL (bl s) = r := ⟨_, rfl⟩
    obtain ⟨l, p, c⟩ := r
    rw [hr] at HA HB hll
    clear hr hs hsm hG
    go_enter Tryd.func3, Tryd.ntmps3
    go_wp2_with fail
    refine (HSm.out _).mono ?_
    rintro e w' ⟨rfl, rfl⟩
    go_wp2_with fail
    refine (HA.out _ G.out.sg).mono ?_
    rintro e W1 ⟨v1, rfl, hr1, hb⟩
    obtain ⟨o1, c1, rfl, hl1⟩ := hr1.shape
    have B1 := Lib.hid hb
    have L1 := Lib.hid hl1
    replace G := Lib.hid (G.out.below hb)
    clear hb hr1 hl1
    go_wp2_with fail
    refine (HB.out _).mono ?_
    rintro e W2 ⟨v2, rfl, hr2, hb⟩
    obtain ⟨o2, c2, rfl, hl2⟩ := hr2.shape
    have B2 := Lib.hid (B1.out.trans (Joins.below_le hb B1.out.size))
    have L2 := Lib.hid hl2
    replace L1 := Lib.hid (L1.out.below hb)
    replace G := Lib.hid (G.out.below hb)
    clear hb hr2 hl2 B1
    go_wp2_with fail
    refine (awake_ok _ G.out).mono ?_
    rintro e W3 ⟨rfl, hb⟩
    have B3 := Lib.hid (B2.out.trans (Joins.below_le hb B2.out.size))
    replace L1 := Lib.hid (L1.out.below hb)
    replace L2 := Lib.hid (L2.out.below hb)
    clear hb B2
    have hsame := same_ok (l.map tkj) (by rw [List.length_map]; exact hll) o1 o2 c1 c2 _ L1.out L2.out
    rw [List.length_map] at hsame
    have HSame := Lib.hid hsame
    clear hsame L1 L2 hll
    go_wp2_with fail
    refine HSame.out.mono ?_
    rintro e W4 ⟨rfl, hb⟩
    have B4 := Lib.hid (B3.out.trans (Joins.below_le hb B3.out.size))
    clear hb B3
    go_wp2_with fail
    go_ret
    exact ⟨rfl, B4.out⟩

end Go.Proofs.YtgckopicmobbgaaDoor
