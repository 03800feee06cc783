/- The chapter's examples. -/
import Derived.Test.YtgckopicmobbgaaDoorLxN
import Derived.WalkKit
import Derived.WalkSpells
import Derived.WalkLawsBesides
import Derived.Handy
import Derived.Deep.QuietTactic
import Derived.BigQuiet
import Derived.Outline
import Derived.Laws.BitsAllLaws
import Derived.IntWalk
import Derived.Lib.SmallJoins
import Derived.Lib.Hide
import Derived.Deep.DeepCutAuto
import Derived.LoopTactic
import Derived.Deep.RegionWith
import Derived.Lib.ConvBytes
import Derived.OwnWalk
import Derived.Laws.MakeOwn
import Derived.Laws.IdiomStrings
namespace Go.Proofs.YtgckopicmobbgaaDoor
set_option linter.unusedVariables false
set_option linter.unusedSimpArgs false
open Go.RowKit Lex

theorem scan1 : scanL (bl ({ data := #[116, 97, 115, 107, 32, 120, 32, 35, 32, 111, 110, 101, 10, 97, 60, 61, 49, 50] } : ByteArray)) = ([⟨0, [116, 97, 115, 107], 0⟩, ⟨0, [120], 5⟩, ⟨0, [97], 13⟩, ⟨2, [60, 61], 14⟩, ⟨1, [49, 50], 16⟩, ⟨3, [], 18⟩], 0, 0) := by decide +kernel
theorem scan2 : scanL (bl ({ data := #[49, 50, 97] } : ByteArray)) = ([], 2, 4) := by decide +kernel
theorem scan3 : scanL (bl ({ data := #[97, 32, 33, 98] } : ByteArray)) = ([], 2, 4) := by decide +kernel
theorem join1 : joinV wantJ = ([116, 97, 115, 107, 32, 120, 32, 97, 60, 61, 49, 50], 0) := by decide +kernel
theorem join2 : joinV twoJ = ([97, 60, 32, 61, 49], 0) := by decide +kernel
theorem pos1 : lcF ((bl ({ data := #[97, 10, 9, 98, 99] } : ByteArray)).take 4) = (2, 3) := by decide +kernel
theorem exc1 : excL (bl ({ data := #[97, 10, 9, 98, 99] } : ByteArray)) 4 = [9, 98, 99, 10, 9, 32, 94] := by decide +kernel
theorem scan_ex1 (w : World) (hG : WG w) : Calls Tryd.prog 13 #[.string { data := #[116, 97, 115, 107, 32, 120, 32, 35, 32, 111, 110, 101, 10, 97, 60, 61, 49, 50] }] w fun e w' => ∃ o cap, e = .returned (.tuple #[.slice o 6 cap, .int .i64 0, .int .i64 0]) ∧ Lt w' o wantJ ∧ Below w.heap.size w w' := by
  refine (scan_any ({ data := #[116, 97, 115, 107, 32, 120, 32, 35, 32, 111, 110, 101, 10, 97, 60, 61, 49, 50] } : ByteArray) (by decide) w hG.sg).mono ?_
  rintro e w' ⟨v, rfl, hr, hb⟩
  rw [scan1] at hr
  obtain ⟨o, cap, rfl, hl⟩ := hr.shape
  exact ⟨o, cap, by rw [scan1]; rfl, hl, hb⟩
theorem scan_ex2 (w : World) (hG : WG w) : Calls Tryd.prog 13 #[.string { data := #[49, 50, 97] }] w fun e w' => ∃ v, e = .returned (.tuple #[v, .int .i64 2, .int .i64 4]) ∧ Below w.heap.size w w' := by
  refine (scan_any ({ data := #[49, 50, 97] } : ByteArray) (by decide) w hG.sg).mono ?_
  rintro e w' ⟨v, rfl, hr, hb⟩
  exact ⟨v, by rw [scan2]; rfl, hb⟩
theorem scan_ex3 (w : World) (hG : WG w) : Calls Tryd.prog 13 #[.string { data := #[97, 32, 33, 98] }] w fun e w' => ∃ v, e = .returned (.tuple #[v, .int .i64 2, .int .i64 4]) ∧ Below w.heap.size w w' := by
  refine (scan_any ({ data := #[97, 32, 33, 98] } : ByteArray) (by decide) w hG.sg).mono ?_
  rintro e w' ⟨v, rfl, hr, hb⟩
  exact ⟨v, by rw [scan3]; rfl, hb⟩
theorem join_ex1 (o : Option Addr) (cap : Nat) (w : World) (hL : Lt w o wantJ) (hG : WG w) : Calls Tryd.prog 16 #[.slice o 6 cap] w fun e w' => e = .returned (.tuple #[.string { data := #[116, 97, 115, 107, 32, 120, 32, 97, 60, 61, 49, 50] }, .int .i64 0]) ∧ Below w.heap.size w w' := by
  refine (join_any wantJ wantJ_few o cap w hL hG.sg).mono ?_
  rintro e w' ⟨rfl, hb⟩
  exact ⟨by rw [join1]; rfl, hb⟩
theorem join_ex2 (o : Option Addr) (cap : Nat) (w : World) (hL : Lt w o twoJ) (hG : WG w) : Calls Tryd.prog 16 #[.slice o 4 cap] w fun e w' => e = .returned (.tuple #[.string { data := #[97, 60, 32, 61, 49] }, .int .i64 0]) ∧ Below w.heap.size w w' := by
  refine (join_any twoJ twoJ_few o cap w hL hG.sg).mono ?_
  rintro e w' ⟨rfl, hb⟩
  exact ⟨by rw [join2]; rfl, hb⟩
theorem pos_ex (w : World) : Calls Tryd.prog 25 #[.string { data := #[97, 10, 9, 98, 99] }, .int .i64 4] w fun e w' => e = .returned (.tuple #[.int .i64 2, .int .i64 3, .int .i64 0]) ∧ w = w' := by
  refine (pos_ok ({ data := #[97, 10, 9, 98, 99] } : ByteArray) (by decide) 4 (by decide) w).mono ?_
  rintro e w' ⟨rfl, rfl⟩
  exact ⟨by rw [pos1]; rfl, rfl⟩
theorem exc_ex (w : World) (hG : WG w) : Calls Tryd.prog 29 #[.string { data := #[97, 10, 9, 98, 99] }, .int .i64 4] w fun e w' => e = .returned (.tuple #[.string { data := #[9, 98, 99, 10, 9, 32, 94] }, .int .i64 0]) ∧ Below w.heap.size w w' := by
  refine (exc_ok ({ data := #[97, 10, 9, 98, 99] } : ByteArray) (by decide) 4 (by decide) w hG.ml.2).mono ?_
  rintro e w' ⟨rfl, hb⟩
  exact ⟨by rw [exc1]; rfl, hb⟩
theorem res_ex1 (w : World) (hG : WG w) : Calls Tryd.prog 20 #[.string { data := #[117, 110, 100, 101, 114] }] w fun e w' => e = .returned (.bool true) ∧ w = w' := by
  refine (reserved_p ({ data := #[117, 110, 100, 101, 114] } : ByteArray) w hG.rs).mono ?_
  rintro e w' ⟨rfl, rfl⟩
  exact ⟨by rw [show decide (bl ({ data := #[117, 110, 100, 101, 114] } : ByteArray) ∈ rsT) = true by decide +kernel], rfl⟩
theorem res_ex2 (w : World) (hG : WG w) : Calls Tryd.prog 20 #[.string { data := #[120] }] w fun e w' => e = .returned (.bool false) ∧ w = w' := by
  refine (reserved_p ({ data := #[120] } : ByteArray) w hG.rs).mono ?_
  rintro e w' ⟨rfl, rfl⟩
  exact ⟨by rw [show decide (bl ({ data := #[120] } : ByteArray) ∈ rsT) = false by decide +kernel], rfl⟩
theorem name_ex (w : World) (hG : WG w) : Calls Tryd.prog 18 #[.string { data := #[75] }] w fun e w' => e = .returned (.int .i64 8) ∧ w = w' := by
  refine (name_p ({ data := #[75] } : ByteArray) (by decide) w hG.rs).mono ?_
  rintro e w' ⟨rfl, rfl⟩
  exact ⟨by rw [show (nameB (bl ({ data := #[75] } : ByteArray)) && !decide (bl ({ data := #[75] } : ByteArray) ∈ rsT)) = false by decide +kernel]; rfl, rfl⟩
theorem key_ex (w : World) (hG : WG w) : Calls Tryd.prog 23 #[] w fun e w' => ∃ o cap, e = .returned (.slice o 46 cap) ∧ Below w.heap.size w w' := by
  refine (keywords_p w hG.rs).mono ?_
  rintro e w' ⟨v, rfl, hr, hb⟩
  rcases hr.2 with ⟨_, h0⟩ | ⟨g, cap, cur, h0, _⟩
  · exact absurd h0 (by decide)
  · exact ⟨_, cap, by rw [h0]; rfl, hb⟩
theorem word_l (s : ByteArray) (w : World) : Calls Tryd.prog 37 #[.string s] w fun e w' => e = .returned (.agg #[.int .i64 0, .string s, .int .i64 0]) ∧ Below w.heap.size w w' := by
  go_enter Tryd.func37, Tryd.ntmps37
  go_wp2_with fail
  exact bodyPost_ret (v := .agg #[.int .i64 0, .string s, .int .i64 0]) (by simp [results, Tryd.results37, go_sem]) rfl ⟨rfl, (Below.refl _ _).alloc (Nat.le_refl _) _⟩
theorem sign_l (s : ByteArray) (w : World) : Calls Tryd.prog 38 #[.string s] w fun e w' => e = .returned (.agg #[.int .i64 2, .string s, .int .i64 0]) ∧ Below w.heap.size w w' := by
  go_enter Tryd.func38, Tryd.ntmps38
  go_wp2_with fail
  exact bodyPost_ret (v := .agg #[.int .i64 2, .string s, .int .i64 0]) (by simp [results, Tryd.results38, go_sem]) rfl ⟨rfl, (Below.refl _ _).alloc (Nat.le_refl _) _⟩

set_option maxRecDepth 100000 in
set_option maxHeartbeats 8000000 in
theorem awake_ok (w : World) (hG : WG w) : Calls Tryd.prog 12 #[] w fun e w' => e = .returned (.bool true) ∧ Below w.heap.size w w' := by
  have G := Lib.hid hG
  clear hG
  go_enter Tryd.func12, Tryd.ntmps12
  go_wp2_with fail
  refine (scan_ex1 _ G.out).mono ?_
  rintro e W1 ⟨o, cap, rfl, hl, hb⟩
  have B1 := Lib.hid hb
  have L1 := Lib.hid hl
  replace G := Lib.hid (G.out.below hb)
  clear hb hl
  go_wp2_with fail
  have hal := (Below.refl W1.heap.size W1).alloc (Nat.le_refl _) (.cells #[.int .i64 0, .string { data := #[116, 97, 115, 107] }, .int .i64 0, .int .i64 0, .string { data := #[120] }, .int .i64 5, .int .i64 0, .string { data := #[97] }, .int .i64 13, .int .i64 2, .string { data := #[60, 61] }, .int .i64 14, .int .i64 1, .string { data := #[49, 50] }, .int .i64 16, .int .i64 3, .string { data := #[] }, .int .i64 18] 32)
  have L1b := Lib.hid (L1.out.below hal)
  have LW := Lib.hid (wantJ_lies W1)
  have B2 := Lib.hid (B1.out.trans (Joins.below_le hal B1.out.size))
  replace G := Lib.hid (G.out.below hal)
  obtain ⟨W2, hW2⟩ : ∃ W2, W1.alloc (.cells #[.int .i64 0, .string { data := #[116, 97, 115, 107] }, .int .i64 0, .int .i64 0, .string { data := #[120] }, .int .i64 5, .int .i64 0, .string { data := #[97] }, .int .i64 13, .int .i64 2, .string { data := #[60, 61] }, .int .i64 14, .int .i64 1, .string { data := #[49, 50] }, .int .i64 16, .int .i64 3, .string { data := #[] }, .int .i64 18] 32) = W2 := ⟨_, rfl⟩
  rw [hW2] at B2 G L1b LW ⊢
  clear hal hW2 L1 B1
  refine (same_ok wantJ (by decide) _ _ _ _ _ L1b.out LW.out).mono ?_
  rintro e W3 ⟨rfl, hb⟩
  have B3 := Lib.hid (B2.out.trans (Joins.below_le hb B2.out.size))
  have LW3 := Lib.hid (LW.out.below hb)
  replace G := Lib.hid (G.out.below hb)
  clear hb L1b LW B2
  go_wp2_with fail
  refine (join_ex1 _ _ _ LW3.out G.out).mono ?_
  rintro e W4 ⟨rfl, hb⟩
  have B4 := Lib.hid (B3.out.trans (Joins.below_le hb B3.out.size))
  replace G := Lib.hid (G.out.below hb)
  clear hb LW3 B3
  go_wp2_with fail
  refine (word_l _ _).mono ?_
  rintro e W5 ⟨rfl, hb⟩
  have B5 := Lib.hid (B4.out.trans (Joins.below_le hb B4.out.size))
  replace G := Lib.hid (G.out.below hb)
  clear hb B4
  go_wp2_with fail
  refine (sign_l _ _).mono ?_
  rintro e W6 ⟨rfl, hb⟩
  have B6 := Lib.hid (B5.out.trans (Joins.below_le hb B5.out.size))
  replace G := Lib.hid (G.out.below hb)
  clear hb B5
  go_wp2_with fail
  refine (sign_l _ _).mono ?_
  rintro e W7 ⟨rfl, hb⟩
  have B7 := Lib.hid (B6.out.trans (Joins.below_le hb B6.out.size))
  replace G := Lib.hid (G.out.below hb)
  clear hb B6
  go_wp2_with fail
  have hal := (Below.refl W7.heap.size W7).alloc (Nat.le_refl _) (.cells #[.int .i64 0, .string { data := #[97] }, .int .i64 0, .int .i64 2, .string { data := #[60] }, .int .i64 0, .int .i64 2, .string { data := #[61] }, .int .i64 0, .int .i64 1, .string { data := #[49] }, .int .i64 0] 32)
  have LT := Lib.hid (twoJ_lies W7)
  have B8 := Lib.hid (B7.out.trans (Joins.below_le hal B7.out.size))
  replace G := Lib.hid (G.out.below hal)
  obtain ⟨W8, hW8⟩ : ∃ W8, W7.alloc (.cells #[.int .i64 0, .string { data := #[97] }, .int .i64 0, .int .i64 2, .string { data := #[60] }, .int .i64 0, .int .i64 2, .string { data := #[61] }, .int .i64 0, .int .i64 1, .string { data := #[49] }, .int .i64 0] 32) = W8 := ⟨_, rfl⟩
  rw [hW8] at B8 G LT ⊢
  clear hal hW8 B7
  refine (join_ex2 _ _ _ LT.out G.out).mono ?_
  rintro e W9 ⟨rfl, hb⟩
  have B9 := Lib.hid (B8.out.trans (Joins.below_le hb B8.out.size))
  replace G := Lib.hid (G.out.below hb)
  clear hb LT B8
  go_wp2_with fail
  refine (scan_ex2 _ G.out).mono ?_
  rintro e Wa ⟨va, rfl, hb⟩
  have Ba := Lib.hid (B9.out.trans (Joins.below_le hb B9.out.size))
  replace G := Lib.hid (G.out.below hb)
  clear hb B9
  go_wp2_with fail
  refine (scan_ex3 _ G.out).mono ?_
  rintro e Wb ⟨vb, rfl, hb⟩
  have Bb := Lib.hid (Ba.out.trans (Joins.below_le hb Ba.out.size))
  replace G := Lib.hid (G.out.below hb)
  clear hb Ba
  go_wp2_with fail
  refine (pos_ex _).mono ?_
  rintro e w' ⟨rfl, rfl⟩
  go_wp2_with fail
  refine (exc_ex _ G.out).mono ?_
  rintro e Wc ⟨rfl, hb⟩
  have Bc := Lib.hid (Bb.out.trans (Joins.below_le hb Bb.out.size))
  replace G := Lib.hid (G.out.below hb)
  clear hb Bb
  go_wp2_with fail
  refine (res_ex1 _ G.out).mono ?_
  rintro e w' ⟨rfl, rfl⟩
  go_wp2_with fail
  refine (res_ex2 _ G.out).mono ?_
  rintro e w' ⟨rfl, rfl⟩
  go_wp2_with fail
  refine (name_ex _ G.out).mono ?_
  rintro e w' ⟨rfl, rfl⟩
  go_wp2_with fail
  refine (key_ex _ G.out).mono ?_
  rintro e Wd ⟨od, cd, rfl, hb⟩
  have Bd_ := Lib.hid (Bc.out.trans (Joins.below_le hb Bc.out.size))
  clear hb Bc
  go_wp2_with fail
  go_ret
  exact ⟨rfl, Bd_.out⟩

end Go.Proofs.YtgckopicmobbgaaDoor
