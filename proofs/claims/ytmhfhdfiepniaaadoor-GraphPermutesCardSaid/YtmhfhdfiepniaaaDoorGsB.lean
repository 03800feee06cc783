/- The check ahead of a theorem on three graphs: true exactly if all are well-formed and have the same number of processes. -/
import Derived.Test.YtmhfhdfiepniaaaDoorGsA
import Derived.Test.YtmhfhdfiepniaaaDoorGrB
import Derived.Test.YtmhfhdfiepniaaaDoorGrC
import Derived.Test.YtmhfhdfiepniaaaDoorGrD
import Derived.Test.YtmhfhdfiepniaaaDoorGrE
import Derived.Test.YtmhfhdfiepniaaaDoorGrK
import Derived.Test.YtmhfhdfiepniaaaDoorGrM
import Derived.Test.YtmhfhdfiepniaaaDoorT
import Derived.WalkKit
import Derived.WalkSpells
import Derived.WalkLawsBesides
import Derived.Handy
import Derived.Deep.QuietTactic
import Derived.BigQuiet
import Derived.Outline
import Derived.Laws.BitsAllLaws
import Derived.IntWalk
import Derived.Lib.SmallJoins
import Derived.Lib.Hide
namespace Go.Proofs.YtmhfhdfiepniaaaDoor
set_option linter.unusedVariables false
set_option linter.unusedSimpArgs false
open Go.RowKit

abbrev icells3 (na nb nc : Int) (a b c : Nat → Int) : Array Value := #[.int .i64 na, .int .i64 (a 0), .int .i64 (a 1), .int .i64 (a 2), .int .i64 (a 3), .int .i64 (a 4), .int .i64 nb, .int .i64 (b 0), .int .i64 (b 1), .int .i64 (b 2), .int .i64 (b 3), .int .i64 (b 4), .int .i64 nc, .int .i64 (c 0), .int .i64 (c 1), .int .i64 (c 2), .int .i64 (c 3), .int .i64 (c 4)]
abbrev iv3 (na nb nc : Int) (a b c : Nat → Int) : Value := .agg (icells3 na nb nc a b c)

def ThreeOk (na nb nc : Int) (a b c : Nat → Int) : Prop := BothOk na nb a b ∧ BothOk nb nc b c

set_option maxHeartbeats 1000000 in
theorem three_yes (n : Int) (a b c : Nat → Int) (ra : Rng a) (rb : Rng b) (rc : Rng c) (ha : WFI n a) (hb : WFI n b) (hc : WFI n c) (w : World) :
    Calls Tryd.prog 16 #[iv3 n n n a b c] w fun e w' => e = .returned (.bool true) ∧ Below w.heap.size w w' := by
  have Hab := Lib.hid (fun w => both_yes n a b ra rb ha hb w)
  have Hbc := Lib.hid (fun w => both_yes n b c rb rc hb hc w)
  clear ra rb rc ha hb hc
  go_enter Tryd.func16, Tryd.ntmps16
  go_wp2_with fail
  refine (Hab.out _).mono ?_
  rintro e w1 ⟨rfl, hb1⟩
  have hz : w.heap.size < w1.heap.size := by have := hb1.size; simp at this; omega
  have z6 := fresh_cell hb1 6
  have z7 := fresh_cell hb1 7
  have z8 := fresh_cell hb1 8
  have z9 := fresh_cell hb1 9
  have z10 := fresh_cell hb1 10
  have z11 := fresh_cell hb1 11
  have z12 := fresh_cell hb1 12
  have z13 := fresh_cell hb1 13
  have z14 := fresh_cell hb1 14
  have z15 := fresh_cell hb1 15
  have z16 := fresh_cell hb1 16
  have z17 := fresh_cell hb1 17
  simp at z6 z7 z8 z9 z10 z11 z12 z13 z14 z15 z16 z17
  go_wp2_with fail
  refine (Hbc.out _).mono ?_
  rintro e w2 ⟨rfl, hb2⟩
  go_wp2_with fail
  go_ret
  exact ⟨rfl, (fresh_below hb1).trans (Joins.below_le hb2 (by omega))⟩

set_option maxHeartbeats 2000000 in
theorem three_no (na nb nc : Int) (a b c : Nat → Int) (ra : Rng a) (rb : Rng b) (rc : Rng c) (h : ¬ ThreeOk na nb nc a b c) (w : World) :
    Calls Tryd.prog 16 #[iv3 na nb nc a b c] w fun e w' => e = .returned (.bool false) ∧ Below w.heap.size w w' := by
  by_cases h1 : BothOk na nb a b
  · have h2 : ¬ BothOk nb nc b c := fun hh => h ⟨h1, hh⟩
    obtain ⟨⟨ha, hb⟩, hn⟩ := h1
    subst hn
    have Hab := Lib.hid (fun w => both_yes na a b ra rb ha hb w)
    have Hbc := Lib.hid (fun w => both_no na nc b c rb rc h2 w)
    clear ra rb rc ha hb h h2
    go_enter Tryd.func16, Tryd.ntmps16
    go_wp2_with fail
    refine (Hab.out _).mono ?_
    rintro e w1 ⟨rfl, hb1⟩
    have hz : w.heap.size < w1.heap.size := by have := hb1.size; simp at this; omega
    have z6 := fresh_cell hb1 6
    have z7 := fresh_cell hb1 7
    have z8 := fresh_cell hb1 8
    have z9 := fresh_cell hb1 9
    have z10 := fresh_cell hb1 10
    have z11 := fresh_cell hb1 11
    have z12 := fresh_cell hb1 12
    have z13 := fresh_cell hb1 13
    have z14 := fresh_cell hb1 14
    have z15 := fresh_cell hb1 15
    have z16 := fresh_cell hb1 16
    have z17 := fresh_cell hb1 17
    simp at z6 z7 z8 z9 z10 z11 z12 z13 z14 z15 z16 z17
    go_wp2_with fail
    refine (Hbc.out _).mono ?_
    rintro e w2 ⟨rfl | rfl | rfl, hb2⟩
    all_goals
      go_wp2_with fail
      go_ret
      exact ⟨rfl, (fresh_below hb1).trans (Joins.below_le hb2 (by omega))⟩
  · have Hab := Lib.hid (fun w => both_no na nb a b ra rb h1 w)
    clear ra rb rc h h1
    go_enter Tryd.func16, Tryd.ntmps16
    go_wp2_with fail
    refine (Hab.out _).mono ?_
    rintro e w1 ⟨rfl | rfl | rfl, hb1⟩
    all_goals
      have hz : w.heap.size < w1.heap.size := by have := hb1.size; simp at this; omega
      go_wp2_with fail
      go_ret
      exact ⟨rfl, fresh_below hb1⟩
end Go.Proofs.YtmhfhdfiepniaaaDoor
