/- The examples of the chapter. -/
import Derived.Test.YtienbebbgioccabDoorPsJ
import Derived.WalkKit
import Derived.WalkSpells
import Derived.WalkLawsBesides
import Derived.Handy
import Derived.Deep.QuietTactic
import Derived.BigQuiet
import Derived.Outline
import Derived.Laws.BitsAllLaws
import Derived.IntWalk
import Derived.Lib.SmallJoins
import Derived.Lib.Hide
import Derived.Deep.DeepCutAuto
import Derived.LoopTactic
import Derived.Deep.RegionWith
namespace Go.Proofs.YtienbebbgioccabDoor
set_option linter.unusedVariables false
set_option linter.unusedSimpArgs false
open Go.RowKit

theorem lies_new (l : List Nat) (W : World) : LiesI (W.alloc (.cells (cellsI l).toArray 3)) (.slice (some ⟨W.heap.size, 0, none⟩) l.length l.length) l := by
  refine ⟨.inr ⟨W.heap.size, l.length, rfl, ?_, Nat.le_refl _, ?_⟩⟩
  · show _ < (W.heap.push _).size
    simp
  · intro V i hV h
    have hX : (W.alloc (.cells (cellsI l).toArray 3)).heap[W.heap.size]? = some (.cells (cellsI l).toArray 3 (0, 0)) := by
      show (W.heap.push _)[W.heap.size]? = _; simp
    rw [hV.cell (p := ⟨W.heap.size, i, none⟩) (by show _ < (W.heap.push _).size; simp), Joins.cell_of_block hX]
    unfold cellsI
    rw [List.getElem?_toArray, List.getElem?_map, List.getElem?_eq_getElem h]; rfl
theorem dgz0 : dgz { data := #[123, 48, 44, 52, 125] } = some [0, 4] := by
  unfold dgz
  rw [if_pos ⟨by decide, by decide +kernel, by decide +kernel⟩, if_neg (by decide +kernel)]
  decide +kernel
theorem dgz1 : dgz { data := #[123, 50, 44, 48, 125] } = some [2, 0] := by
  unfold dgz
  rw [if_pos ⟨by decide, by decide +kernel, by decide +kernel⟩, if_neg (by decide +kernel)]
  decide +kernel
theorem dgz2 : dgz { data := #[123, 48, 44, 48, 125] } = some [0, 0] := by
  unfold dgz
  rw [if_pos ⟨by decide, by decide +kernel, by decide +kernel⟩, if_neg (by decide +kernel)]
  decide +kernel
theorem dgz3 : dgz { data := #[123, 48, 44, 32, 50, 125] } = none := by
  unfold dgz
  rw [if_pos ⟨by decide, by decide +kernel, by decide +kernel⟩, if_neg (by decide +kernel)]
  decide +kernel
theorem pz0 : pz 4 { data := #[123, 48, 44, 52, 125] } = (0, 2) := by
  unfold pz
  rw [if_neg (by decide +kernel), dgz0]
  show (if (ofz 4 0 (zl [0, 4])).2 ≠ 0 then _ else _) = _
  rw [if_pos (by decide +kernel)]
  decide +kernel
theorem pz1 : pz 4 { data := #[123, 50, 44, 48, 125] } = (0, 14) := by
  unfold pz
  rw [if_neg (by decide +kernel), dgz1]
  show (if (ofz 4 0 (zl [2, 0])).2 ≠ 0 then _ else _) = _
  rw [if_neg (by decide +kernel), if_pos ⟨0, by decide, by decide⟩]
theorem pz2 : pz 4 { data := #[123, 48, 44, 48, 125] } = (0, 7) := by
  unfold pz
  rw [if_neg (by decide +kernel), dgz2]
  show (if (ofz 4 0 (zl [0, 0])).2 ≠ 0 then _ else _) = _
  rw [if_pos (by decide +kernel)]
  decide +kernel
theorem pz3 : pz 4 { data := #[123, 48, 44, 32, 50, 125] } = (0, 4) := by
  unfold pz
  rw [if_neg (by decide +kernel), dgz3]
theorem int_cell {w W : World} {m : Int} (h : w.cell? ⟨3, 0, none⟩ = some (.int .i64 m)) (hw : 3 < w.heap.size) (hb : Below w.heap.size w W) : W.cell? ⟨3, 0, none⟩ = some (.int .i64 m) := (hb.cell (p := ⟨3, 0, none⟩) hw).trans h

theorem arz_new (l : List Int) (W : World) : Arz (W.alloc (.cells (l.map (Value.int .i64)).toArray 3)) W.heap.size 0 l := by
  intro i h
  rw [Nat.zero_add]
  refine (Joins.cell_alloc_mark_at _ _ _ (0, 0) _ i (by simp)).trans ?_
  rw [List.getElem?_toArray, List.getElem?_map, List.getElem?_eq_getElem h]; rfl
theorem bt {w W V : World} (h : Below w.heap.size w W) (h2 : Below W.heap.size W V) : Below w.heap.size w V := h.trans (Joins.below_le h2 h.size)
/-- The four texts lie there. -/
structure Tx (A : Nat) (w : World) : Prop where
  lt : A < w.heap.size
  c0 : w.cell? ⟨A, 0, none⟩ = some (.string { data := #[123, 48, 44, 52, 125] })
  c1 : w.cell? ⟨A, 1, none⟩ = some (.string { data := #[123, 50, 44, 48, 125] })
  c2 : w.cell? ⟨A, 2, none⟩ = some (.string { data := #[123, 48, 44, 48, 125] })
  c3 : w.cell? ⟨A, 3, none⟩ = some (.string { data := #[123, 48, 44, 32, 50, 125] })
theorem Tx.below {A : Nat} {w W : World} (h : Tx A w) (hb : Below w.heap.size w W) : Tx A W :=
  ⟨Nat.lt_of_lt_of_le h.lt hb.size, (hb.cell (p := ⟨A, 0, none⟩) h.lt).trans h.c0, (hb.cell (p := ⟨A, 1, none⟩) h.lt).trans h.c1, (hb.cell (p := ⟨A, 2, none⟩) h.lt).trans h.c2, (hb.cell (p := ⟨A, 3, none⟩) h.lt).trans h.c3⟩
def txc : Array Value := #[.string { data := #[123, 48, 44, 52, 125] }, .string { data := #[123, 50, 44, 48, 125] }, .string { data := #[123, 48, 44, 48, 125] }, .string { data := #[123, 48, 44, 32, 50, 125] }]
theorem Tx.new (W : World) : Tx W.heap.size (W.alloc (.cells txc 9)) := by
  have hc : ∀ i, (W.alloc (.cells txc 9)).cell? ⟨W.heap.size, i, none⟩ = txc[i]? := fun i => Joins.cell_alloc_mark_at _ _ _ (0, 0) _ i (by simp)
  refine ⟨?_, hc 0, hc 1, hc 2, hc 3⟩
  show _ < (W.heap.push _).size
  simp

set_option maxRecDepth 100000 in
set_option maxHeartbeats 16000000 in
theorem awake_ok (m : Int) (w : World) (hT : Tab w) (hw : 3 < w.heap.size) (hm : w.cell? ⟨3, 0, none⟩ = some (.int .i64 m)) :
    Calls Tryd.prog 5 #[] w fun e w' => e = .returned (.bool true) ∧ Below w.heap.size w w' := by
  have HM : Hid (∀ W, Tab W → Calls Tryd.prog 10 #[.int .i64 4, .int .i64 13] W (LRes [0, 2, 3] 0 W.heap.size W)) := Lib.hid (fun W h => members_okn 4 13 ⟨by decide, by decide, by decide⟩ W h)
  have HS : Hid (∀ W, Calls Tryd.prog 4 #[.int .i64 4, .int .i64 13] W fun e w' => e = .returned (.tuple #[.int .i64 3, .int .i64 0]) ∧ W = w') := Lib.hid (fun W => size_okn 4 13 ⟨by decide, by decide, by decide⟩ W)
  have HF : Hid (∀ W, Tab W → Calls Tryd.prog 11 #[.int .i64 4, .int .i64 13] W fun e W' => e = .returned (.tuple #[.string { data := #[123, 48, 44, 50, 44, 51, 125] }, .int .i64 0]) ∧ Below W.heap.size W W') := Lib.hid (fun W h => by
    have h2 := format_okn 4 13 ⟨by decide, by decide, by decide⟩ W h
    rw [show txs 13 = { data := #[123, 48, 44, 50, 44, 51, 125] } from by decide +kernel] at h2
    exact h2)
  have HO : Hid (∀ W : World, Calls Tryd.prog 12 #[.int .i64 4, .slice (some ⟨W.heap.size, 0, none⟩) 3 3] (W.alloc (.cells #[.int .i64 3, .int .i64 0, .int .i64 2] 3)) fun e w' => e = .returned (.tuple #[.int .i64 13, .int .i64 0]) ∧ Below W.heap.size W w') := Lib.hid (fun W => by
    refine (of_okn 4 ⟨by decide, by decide⟩ [3, 0, 2] (by decide) W.heap.size 0 3 _ (arz_new [3, 0, 2] W)).mono ?_
    rintro e w' ⟨rfl, rfl⟩
    exact ⟨rfl, (Below.refl _ _).alloc (Nat.le_refl _) _⟩)
  have HU : Hid (∀ W, Calls Tryd.prog 13 #[.int .i64 4, .int .i64 5] W (LRes [0, 1, 4, 5] 0 W.heap.size W)) := Lib.hid (fun W => by
    have h := subsets_okn 4 5 ⟨by decide, by decide, by decide⟩ W
    rw [show sub 5 0 = [0, 1, 4, 5] from by decide +kernel] at h
    exact h)
  have HC : Hid (∀ W, Calls Tryd.prog 6 #[.int .i64 4, .int .i64 5, .int .i64 1] W (LRes [1, 4] 0 W.heap.size W)) := Lib.hid (fun W => by
    have h := choose_okn 4 5 ⟨by decide, by decide, by decide⟩ 1 ⟨by decide, by decide +kernel⟩ W
    rw [show cho 5 1 = [1, 4] from by decide +kernel] at h
    exact h)
  have HP : Hid (∀ (s : ByteArray) (c : Int), s.size ≤ 1000000 → pz 4 s = (0, c) → ∀ W, Below w.heap.size w W → Calls Tryd.prog 15 #[.int .i64 4, .string s] W fun e w' => e = .returned (.tuple #[.int .i64 0, .int .i64 c]) ∧ Below W.heap.size W w') := Lib.hid (fun s c hs hz W hb => by
    have h := parse_okn 4 ⟨by decide, by decide⟩ s hs m W (Nat.lt_of_lt_of_le hw hb.size) (int_cell hm hw hb)
    rw [hz] at h
    exact h)
  have HE3 : Hid (∀ (W : World) (u : Value), LiesI W u [0, 2, 3] → Calls Tryd.prog 14 #[u, .slice (some ⟨W.heap.size, 0, none⟩) 3 3] (W.alloc (.cells #[.int .i64 0, .int .i64 2, .int .i64 3] 3)) fun e w' => e = .returned (.bool true) ∧ Below W.heap.size W w') := Lib.hid (fun W u hu => by
    have hb : Below W.heap.size W (W.alloc (.cells (cellsI [0, 2, 3]).toArray 3)) := (Below.refl _ _).alloc (Nat.le_refl _) _
    refine (equal_ok [0, 2, 3] (by decide) u _ _ (hu.below hb) (lies_new [0, 2, 3] W)).mono ?_
    rintro e w' ⟨rfl, hb2⟩
    exact ⟨rfl, hb.trans (Joins.below_le hb2 hb.size)⟩)
  have HE4 : Hid (∀ (W : World) (u : Value), LiesI W u [0, 1, 4, 5] → Calls Tryd.prog 14 #[u, .slice (some ⟨W.heap.size, 0, none⟩) 4 4] (W.alloc (.cells #[.int .i64 0, .int .i64 1, .int .i64 4, .int .i64 5] 3)) fun e w' => e = .returned (.bool true) ∧ Below W.heap.size W w') := Lib.hid (fun W u hu => by
    have hb : Below W.heap.size W (W.alloc (.cells (cellsI [0, 1, 4, 5]).toArray 3)) := (Below.refl _ _).alloc (Nat.le_refl _) _
    refine (equal_ok [0, 1, 4, 5] (by decide) u _ _ (hu.below hb) (lies_new [0, 1, 4, 5] W)).mono ?_
    rintro e w' ⟨rfl, hb2⟩
    exact ⟨rfl, hb.trans (Joins.below_le hb2 hb.size)⟩)
  have HE2 : Hid (∀ (W : World) (u : Value), LiesI W u [1, 4] → Calls Tryd.prog 14 #[u, .slice (some ⟨W.heap.size, 0, none⟩) 2 2] (W.alloc (.cells #[.int .i64 1, .int .i64 4] 3)) fun e w' => e = .returned (.bool true) ∧ Below W.heap.size W w') := Lib.hid (fun W u hu => by
    have hb : Below W.heap.size W (W.alloc (.cells (cellsI [1, 4]).toArray 3)) := (Below.refl _ _).alloc (Nat.le_refl _) _
    refine (equal_ok [1, 4] (by decide) u _ _ (hu.below hb) (lies_new [1, 4] W)).mono ?_
    rintro e w' ⟨rfl, hb2⟩
    exact ⟨rfl, hb.trans (Joins.below_le hb2 hb.size)⟩)
  have HT := Lib.hid hT
  have Hw := Lib.hid hw
  clear hT hm hw
  go_enter Tryd.func5, Tryd.ntmps5
  go_wp2_with fail
  refine (HM.out _ HT.out).mono ?_
  rintro e W1 ⟨v1, rfl, hB1, hL1⟩
  have HB1 := Lib.hid hB1
  have HL1 := Lib.hid hL1
  clear hB1 hL1
  go_wp2_with fail
  refine (HS.out _).mono ?_
  rintro e w' ⟨rfl, rfl⟩
  go_wp2_with fail
  refine (HF.out _ (HT.out.below HB1.out HT.out.pos)).mono ?_
  rintro e W2 ⟨rfl, hB2⟩
  have HB2 : Hid (Below W1.heap.size W1 W2) := Lib.hid hB2
  clear hB2
  go_wp2_with fail
  refine (HO.out W2).mono ?_
  rintro e W3 ⟨rfl, hB3⟩
  have HB3 := Lib.hid hB3
  clear hB3 HO HF HS HM
  go_wp2_with fail
  refine (HU.out _).mono ?_
  rintro e W4 ⟨v4, rfl, hB4, hL4⟩
  have HB4 : Hid (Below W3.heap.size W3 W4) := Lib.hid hB4
  have HL4 := Lib.hid hL4
  clear hB4 hL4 HU
  go_wp2_with fail
  refine (HC.out _).mono ?_
  rintro e W5 ⟨v5, rfl, hB5, hL5⟩
  have HB5 : Hid (Below W4.heap.size W4 W5) := Lib.hid hB5
  have HL5 := Lib.hid hL5
  clear hB5 hL5 HC
  go_wp2_with fail
  refine (HE3.out W5 v1 ((((HL1.out.below HB2.out).below HB3.out).below HB4.out).below HB5.out)).mono ?_
  rintro e W6 ⟨rfl, hB6⟩
  have HB6 := Lib.hid hB6
  clear hB6
  go_wp2_with fail
  refine (HE4.out W6 v4 ((HL4.out.below HB5.out).below HB6.out)).mono ?_
  rintro e W7 ⟨rfl, hB7⟩
  have HB7 := Lib.hid hB7
  clear hB7
  go_wp2_with fail
  refine (HE2.out W7 v5 ((HL5.out.below HB6.out).below HB7.out)).mono ?_
  rintro e W8 ⟨rfl, hB8⟩
  have HB8 := Lib.hid hB8
  clear hB8
  have HW8 : Hid (Below w.heap.size w W8) := Lib.hid (bt (bt (bt (bt (bt (bt (bt HB1.out HB2.out) HB3.out) HB4.out) HB5.out) HB6.out) HB7.out) HB8.out)
  clear HB1 HB2 HB3 HB4 HB5 HB6 HB7 HB8 HL1 HL4 HL5 HE3 HE4 HE2
  go_wp2_with fail
  go_loopw [86] (fun j wr => ∃ i : Nat, i ≤ 4 ∧ j = .int .i64 i ∧ Below w.heap.size w wr ∧ Tx W8.heap.size wr) (fun j _ => 4 - (intOf j).toNat)
  case atStart => exact ⟨0, by omega, rfl, HW8.out.alloc HW8.out.size _, Tx.new W8⟩
  case round =>
    obtain ⟨i, hi, rfl, hB, hX⟩ := hrel
    have HB := Lib.hid hB
    have HX := Lib.hid hX
    clear hB hX
    obtain rfl | rfl | rfl | rfl | rfl : i = 0 ∨ i = 1 ∨ i = 2 ∨ i = 3 ∨ i = 4 := by omega
    · have hc := HX.out.c0
      go_wp2_with fail
      refine (HP.out _ 2 (by decide +kernel) pz0 _ HB.out).mono ?_
      rintro e V ⟨rfl, hV⟩
      have HV : Hid (Below w.heap.size w V ∧ Tx W8.heap.size V) := Lib.hid ⟨HB.out.trans (Joins.below_le hV HB.out.size), HX.out.below hV⟩
      clear hV hc
      go_wp2_with fail
      go_roundw
      case rel => exact ⟨1, by omega, by first | rfl | go_num, HV.out.1.alloc HV.out.1.size _, HV.out.2.below ((Below.refl _ _).alloc (Nat.le_refl _) _)⟩
      case measure => simp [intOf]
    · have hc := HX.out.c1
      go_wp2_with fail
      refine (HP.out _ 14 (by decide +kernel) pz1 _ HB.out).mono ?_
      rintro e V ⟨rfl, hV⟩
      have HV : Hid (Below w.heap.size w V ∧ Tx W8.heap.size V) := Lib.hid ⟨HB.out.trans (Joins.below_le hV HB.out.size), HX.out.below hV⟩
      clear hV hc
      go_wp2_with fail
      go_roundw
      case rel => exact ⟨2, by omega, by first | rfl | go_num, HV.out.1.alloc HV.out.1.size _, HV.out.2.below ((Below.refl _ _).alloc (Nat.le_refl _) _)⟩
      case measure => simp [intOf]
    · have hc := HX.out.c2
      go_wp2_with fail
      refine (HP.out _ 7 (by decide +kernel) pz2 _ HB.out).mono ?_
      rintro e V ⟨rfl, hV⟩
      have HV : Hid (Below w.heap.size w V ∧ Tx W8.heap.size V) := Lib.hid ⟨HB.out.trans (Joins.below_le hV HB.out.size), HX.out.below hV⟩
      clear hV hc
      go_wp2_with fail
      go_roundw
      case rel => exact ⟨3, by omega, by first | rfl | go_num, HV.out.1.alloc HV.out.1.size _, HV.out.2.below ((Below.refl _ _).alloc (Nat.le_refl _) _)⟩
      case measure => simp [intOf]
    · have hc := HX.out.c3
      go_wp2_with fail
      refine (HP.out _ 4 (by decide +kernel) pz3 _ HB.out).mono ?_
      rintro e V ⟨rfl, hV⟩
      have HV : Hid (Below w.heap.size w V ∧ Tx W8.heap.size V) := Lib.hid ⟨HB.out.trans (Joins.below_le hV HB.out.size), HX.out.below hV⟩
      clear hV hc
      go_wp2_with fail
      go_roundw
      case rel => exact ⟨4, by omega, by first | rfl | go_num, HV.out.1.alloc HV.out.1.size _, HV.out.2.below ((Below.refl _ _).alloc (Nat.le_refl _) _)⟩
      case measure => simp [intOf]
    · go_wp2_with fail
      go_ret
      exact ⟨rfl, HB.out⟩
end Go.Proofs.YtienbebbgioccabDoor
