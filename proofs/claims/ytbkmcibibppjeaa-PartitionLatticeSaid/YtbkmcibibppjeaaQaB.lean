/- The examples of the chapter. -/
import Derived.Test.YtbkmcibibppjeaaQaA
import Derived.WalkKit
import Derived.WalkSpells
import Derived.WalkLawsBesides
import Derived.Handy
import Derived.Deep.QuietTactic
import Derived.BigQuiet
import Derived.Outline
import Derived.Laws.BitsAllLaws
import Derived.IntWalk
import Derived.Lib.SmallJoins
import Derived.Lib.Hide
import Derived.Deep.DeepCutAuto
import Derived.LoopTactic
import Derived.Deep.RegionWith
namespace Go.Proofs.Ytbkmcibibppjeaa
set_option linter.unusedVariables false
set_option linter.unusedSimpArgs false
open Go.RowKit Part

/-- A list as a function. -/
def fl (l : List Int) : Nat → Int := fun i => l.getD i 0
theorem vec_fl (l : List Int) : vec l.length (fl l) = (lsv l).toArray := by
  unfold vec lsv
  congr 1
  apply List.ext_getElem?
  intro i
  rw [List.getElem?_map, List.getElem?_map]
  by_cases h : i < l.length
  · rw [List.getElem?_range h, List.getElem?_eq_getElem h]
    simp [fl, List.getD_eq_getElem?_getD, List.getElem?_eq_getElem h]
  · rw [List.getElem?_eq_none (by simp; omega), List.getElem?_eq_none (by omega)]
    rfl
theorem lz_lit (l : List Int) (W : World) (t : TypeId) : Lz (W.alloc (.cells (lsv l).toArray t)) (some ⟨W.heap.size, 0, none⟩) l.length (fl l) := by
  have h := Box.new W (vec l.length (fl l)) t
  rw [vec_fl] at h
  have h2 : Box (W.alloc (.cells (lsv l).toArray t)) W.heap.size (vec l.length (fl l)) t := by rw [vec_fl]; exact h
  exact h2.lz
theorem pres_to {n : Nat} {f g : Nat → Int} {c : Int} {w : World} {e : Ending} {w' : World} (h : PRes n f c w e w') (hfg : ∀ i, i < n → f i = g i) : PRes n g c w e w' := by
  obtain ⟨o, cap, h1, h2, h3⟩ := h
  exact ⟨o, cap, h1, h2.congr hfg, h3⟩
theorem join_lit {m : Nat → Nat} (h : IsJoin 4 (nat (fl [0, 0, 1, 1])) (nat (fl [0, 1, 1, 1])) m) : ∀ i, i < 4 → zf m i = fl [0, 0, 0, 0] i := by
  have h0 : m 0 = 0 := by
    have h1 := h.1 0 (by omega)
    have h2 : cnt m 0 = 0 := rfl
    omega
  have h01 : m 0 = m 1 := (h.2 0 1 (by omega) (by omega)).2 (.one (by omega) rfl)
  have h12 : m 1 = m 2 := (h.2 1 2 (by omega) (by omega)).2 (.two (by omega) rfl)
  have h23 : m 2 = m 3 := (h.2 2 3 (by omega) (by omega)).2 (.one (by omega) rfl)
  intro i hi
  have e : m i = 0 := by
    obtain rfl | rfl | rfl | rfl : i = 0 ∨ i = 1 ∨ i = 2 ∨ i = 3 := by omega
    all_goals omega
  show ((m i : Nat) : Int) = _
  rw [e]
  obtain rfl | rfl | rfl | rfl : i = 0 ∨ i = 1 ∨ i = 2 ∨ i = 3 := by omega
  all_goals rfl
theorem g1 : Good 4 (fl [0, 1, 0, 2]) := (pcd_zero _ _).1 (by decide)
theorem g2 : Good 4 (fl [0, 0, 1, 1]) := (pcd_zero _ _).1 (by decide)
theorem g3 : Good 4 (fl [0, 1, 1, 1]) := (pcd_zero _ _).1 (by decide)
theorem l1 : ∀ i, i < 4 → labf (fl [7, 3, 7, 5]) i = fl [0, 1, 0, 2] i := by decide
theorem l2 : ∀ i, i < 4 → meetf (fl [0, 0, 1, 1]) (fl [0, 1, 1, 1]) i = fl [0, 1, 2, 2] i := by decide
theorem l3 : cnt (nat (fl [0, 1, 0, 2])) 4 = 3 := by decide
def cl3 : Nat → List Int := fun c => [[0, 2], [1], [3]].getD c []
theorem l4 : memb (nat (fl [0, 1, 0, 2])) 4 0 = [0, 2] ∧ memb (nat (fl [0, 1, 0, 2])) 4 1 = [1] ∧ memb (nat (fl [0, 1, 0, 2])) 4 2 = [3] := by decide
theorem in7 : ∀ i, i < 4 → In64 (fl [7, 3, 7, 5] i) := by unfold In64; decide

theorem Ls.congr {w : World} {o : Option Addr} {k : Nat} {L L' : Nat → List Int} (h : Ls w o k L) (e : ∀ c, c < k → L c = L' c) : Ls w o k L' := fun hn => by
  obtain ⟨b, off, e1, hl, hc⟩ := h hn
  refine ⟨b, off, e1, hl, fun c hk => ?_⟩
  rw [← e c hk]
  exact hc c hk
theorem ls_lit (W : World) : Ls ((((W.alloc (.cells (lsv [0, 2]).toArray 3)).alloc (.cells (lsv [1]).toArray 3)).alloc (.cells (lsv [3]).toArray 3)).alloc (.cells #[.slice (some ⟨W.heap.size, 0, none⟩) 2 2, .slice (some ⟨W.heap.size + 1, 0, none⟩) 1 1, .slice (some ⟨W.heap.size + 1 + 1, 0, none⟩) 1 1] 22)) (some ⟨W.heap.size + 1 + 1 + 1, 0, none⟩) 3 cl3 := fun _ => by
  refine ⟨_, 0, rfl, by simp, fun c hc => ?_⟩
  have a0 := lz_lit [0, 2] W 3
  have a1 := lz_lit [1] (W.alloc (.cells (lsv [0, 2]).toArray 3)) 3
  have a2 := lz_lit [3] ((W.alloc (.cells (lsv [0, 2]).toArray 3)).alloc (.cells (lsv [1]).toArray 3)) 3
  simp only [World.size_alloc] at a1 a2
  have up : ∀ (V : World) (o : Obj), Below V.heap.size V (V.alloc o) := fun V o => (Below.refl _ _).alloc (Nat.le_refl _) _
  obtain rfl | rfl | rfl : c = 0 ∨ c = 1 ∨ c = 2 := by omega
  · exact ⟨_, 2, Joins.cell_alloc_mark_at _ #[_, _, _] 22 (0, 0) _ 0 (by simp), ((a0.below (up _ _)).below (up _ _)).below (up _ _)⟩
  · exact ⟨_, 1, Joins.cell_alloc_mark_at _ #[_, _, _] 22 (0, 0) _ 1 (by simp), (a1.below (up _ _)).below (up _ _)⟩
  · exact ⟨_, 1, Joins.cell_alloc_mark_at _ #[_, _, _] 22 (0, 0) _ 2 (by simp), a2.below (up _ _)⟩
theorem cl3_of : ∀ c, c < 3 → memb (nat (fl [0, 1, 0, 2])) 4 c = cl3 c := by
  intro c hc
  obtain rfl | rfl | rfl : c = 0 ∨ c = 1 ∨ c = 2 := by omega
  · exact l4.1
  · exact l4.2.1
  · exact l4.2.2
theorem cl3_len : ∀ c, c < 3 → (cl3 c).length ≤ 1000000 := by
  intro c hc
  obtain rfl | rfl | rfl : c = 0 ∨ c = 1 ∨ c = 2 := by omega
  all_goals decide
theorem pc2 : pcd 2 (fl [0, 2]) = 14 := by decide
theorem pc1 : pcd 1 (fl [1]) = 14 := by decide
set_option maxRecDepth 100000 in
set_option maxHeartbeats 4000000 in
theorem awake_ok (w : World) : Calls Try.prog 12 #[] w fun e w' => e = .returned (.bool true) ∧ Below w.heap.size w w' := by
  go_enter Try.func12, Try.ntmps12
  go_wp2_with fail
  refine (of_okn 4 (by decide) (fl [7, 3, 7, 5]) in7 _ _ _ (lz_lit [7, 3, 7, 5] w 3)).mono ?_
  intro e W1 h1
  obtain ⟨o1, c1, rfl, hl1, hb1⟩ := pres_to h1 l1
  have A1 := Lib.hid hl1
  have B1 : Hid (Below w.heap.size w W1) := Lib.hid (((Below.refl _ _).alloc (Nat.le_refl _) _).trans (hb1.mono (by simp)))
  clear h1 hl1 hb1
  go_wp2_with fail
  refine (classes_good 4 (fl [0, 1, 0, 2]) g1 _ _ _ A1.out).mono ?_
  rw [l3]
  rintro e W2 ⟨o2, c2, rfl, hl2, hb2⟩
  have A2 := Lib.hid (A1.out.below hb2)
  have C2 := Lib.hid hl2
  have B2 : Hid (Below w.heap.size w W2) := Lib.hid (B1.out.trans (Joins.below_le hb2 B1.out.size))
  clear hl2 hb2 A1 B1
  go_wp2_with fail
  refine (meet_good 4 (fl [0, 0, 1, 1]) (fl [0, 1, 1, 1]) g2 g3 _ _ _ _ _ ((lz_lit [0, 0, 1, 1] W2 3).below ((Below.refl _ _).alloc (Nat.le_refl _) _)) (by have h := lz_lit [0, 1, 1, 1] (W2.alloc (.cells (lsv [0, 0, 1, 1]).toArray 3)) 3; rw [World.size_alloc] at h; exact h)).mono ?_
  intro e W3 h3
  obtain ⟨o3, c3, rfl, hl3, hb3⟩ := pres_to h3 l2
  have A3 := Lib.hid hl3
  have hbb : Below W2.heap.size W2 W3 := (((Below.refl _ _).alloc (Nat.le_refl _) _).alloc (by simp) _).trans (hb3.mono (by simp; omega))
  have A23 := Lib.hid (A2.out.below hbb)
  have C23 := Lib.hid (C2.out.below hbb)
  have B3 : Hid (Below w.heap.size w W3) := Lib.hid (B2.out.trans (Joins.below_le hbb B2.out.size))
  clear h3 hl3 hb3 hbb A2 C2 B2
  go_wp2_with fail
  refine (join_good 4 (fl [0, 0, 1, 1]) (fl [0, 1, 1, 1]) g2 g3 _ _ _ _ _ ((lz_lit [0, 0, 1, 1] W3 3).below ((Below.refl _ _).alloc (Nat.le_refl _) _)) (by have h := lz_lit [0, 1, 1, 1] (W3.alloc (.cells (lsv [0, 0, 1, 1]).toArray 3)) 3; rw [World.size_alloc] at h; exact h)).mono ?_
  rintro e W4 ⟨m, hm, h4⟩
  obtain ⟨o4, c4, rfl, hl4, hb4⟩ := pres_to h4 (join_lit hm)
  have hbb : Below W3.heap.size W3 W4 := (((Below.refl _ _).alloc (Nat.le_refl _) _).alloc (by simp) _).trans (hb4.mono (by simp; omega))
  have A4 := Lib.hid hl4
  have A34 := Lib.hid (A3.out.below hbb)
  have A24 := Lib.hid (A23.out.below hbb)
  have C24 := Lib.hid (C23.out.below hbb)
  have B4 : Hid (Below w.heap.size w W4) := Lib.hid (B3.out.trans (Joins.below_le hbb B3.out.size))
  clear h4 hl4 hb4 hbb hm A3 A23 C23 B3
  go_wp2_with fail
  have hq1 : Below W4.heap.size W4 (W4.alloc (.cells (lsv [0, 1, 0, 2]).toArray 3)) := (Below.refl _ _).alloc (Nat.le_refl _) _
  refine (equal_any 4 4 (by decide) (fl [0, 1, 0, 2]) (fl [0, 1, 0, 2]) _ _ _ _ _ (A24.out.below hq1) (lz_lit [0, 1, 0, 2] W4 3)).mono ?_
  rw [eqb_self (fun _ _ => rfl)]
  rintro e W5 ⟨rfl, hb5⟩
  have hbb := hq1.trans (hb5.mono (by simp))
  have A35 := Lib.hid (A34.out.below hbb)
  have A45 := Lib.hid (A4.out.below hbb)
  have C25 := Lib.hid (C24.out.below hbb)
  have B5 : Hid (Below w.heap.size w W5) := Lib.hid (B4.out.trans (Joins.below_le hbb B4.out.size))
  clear hq1 hb5 hbb A4 A34 A24 C24 B4
  go_wp2_with fail
  have hq1 : Below W5.heap.size W5 ((((W5.alloc (.cells (lsv [0, 2]).toArray 3)).alloc (.cells (lsv [1]).toArray 3)).alloc (.cells (lsv [3]).toArray 3)).alloc (.cells #[.slice (some ⟨W5.heap.size, 0, none⟩) 2 2, .slice (some ⟨W5.heap.size + 1, 0, none⟩) 1 1, .slice (some ⟨W5.heap.size + 1 + 1, 0, none⟩) 1 1] 22)) := ((((Below.refl _ _).alloc (Nat.le_refl _) _).alloc (by simp) _).alloc (by simp; omega) _).alloc (by simp; omega) _
  have HQ := Lib.hid hq1
  clear hq1
  refine (samelists_ok 3 (by decide) cl3 cl3_len o2 (some ⟨W5.heap.size + 1 + 1 + 1, 0, none⟩) c2 3 _ ((C25.out.congr cl3_of).below HQ.out) (ls_lit W5)).mono ?_
  rintro e W6 ⟨rfl, d, hd⟩
  have hbb : Below W5.heap.size W5 W6 := by rw [hd]; exact below_dn _ HQ.out
  have A36 := Lib.hid (A35.out.below hbb)
  have A46 := Lib.hid (A45.out.below hbb)
  have B6 : Hid (Below w.heap.size w W6) := Lib.hid (B5.out.trans (Joins.below_le hbb B5.out.size))
  clear hd hbb A35 A45 C25 B5 HQ
  go_wp2_with fail
  have hq1 : Below W6.heap.size W6 (W6.alloc (.cells (lsv [0, 1, 2, 2]).toArray 3)) := (Below.refl _ _).alloc (Nat.le_refl _) _
  refine (equal_any 4 4 (by decide) (fl [0, 1, 2, 2]) (fl [0, 1, 2, 2]) _ _ _ _ _ (A36.out.below hq1) (lz_lit [0, 1, 2, 2] W6 3)).mono ?_
  rw [eqb_self (fun _ _ => rfl)]
  rintro e W7 ⟨rfl, hb7⟩
  have hbb := hq1.trans (hb7.mono (by simp))
  have A47 := Lib.hid (A46.out.below hbb)
  have B7 : Hid (Below w.heap.size w W7) := Lib.hid (B6.out.trans (Joins.below_le hbb B6.out.size))
  clear hq1 hb7 hbb A36 A46 B6
  go_wp2_with fail
  have hq1 : Below W7.heap.size W7 (W7.alloc (.cells (lsv [0, 0, 0, 0]).toArray 3)) := (Below.refl _ _).alloc (Nat.le_refl _) _
  refine (equal_any 4 4 (by decide) (fl [0, 0, 0, 0]) (fl [0, 0, 0, 0]) _ _ _ _ _ (A47.out.below hq1) (lz_lit [0, 0, 0, 0] W7 3)).mono ?_
  rw [eqb_self (fun _ _ => rfl)]
  rintro e W8 ⟨rfl, hb8⟩
  have hbb := hq1.trans (hb8.mono (by simp))
  have B8 : Hid (Below w.heap.size w W8) := Lib.hid (B7.out.trans (Joins.below_le hbb B7.out.size))
  clear hq1 hb8 hbb A47 B7
  go_wp2_with fail
  refine (check_any 2 (fl [0, 2]) _ _ _ (lz_lit [0, 2] W8 3)).mono ?_
  rw [pc2]
  rintro e W9 ⟨rfl, rfl⟩
  go_wp2_with fail
  have hz := lz_lit [1] (W8.alloc (.cells (lsv [0, 2]).toArray 3)) 3
  rw [World.size_alloc] at hz
  refine (check_any 1 (fl [1]) _ 1 _ hz).mono ?_
  clear hz
  rw [pc1]
  rintro e W9 ⟨rfl, rfl⟩
  go_wp2_with fail
  go_ret
  exact ⟨rfl, (B8.out.alloc B8.out.size _).alloc (by have := B8.out.size; simp; omega) _⟩
end Go.Proofs.Ytbkmcibibppjeaa
