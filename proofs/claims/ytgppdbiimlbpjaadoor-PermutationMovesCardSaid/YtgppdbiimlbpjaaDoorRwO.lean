/- The examples of the chapter. -/
import Derived.Test.YtgppdbiimlbpjaaDoorRwN
import Derived.WalkKit
import Derived.WalkSpells
import Derived.WalkLawsBesides
import Derived.Handy
import Derived.Deep.QuietTactic
import Derived.BigQuiet
import Derived.Outline
import Derived.Laws.BitsAllLaws
import Derived.IntWalk
import Derived.Lib.SmallJoins
import Derived.Lib.Hide
import Derived.Deep.DeepCutAuto
import Derived.LoopTactic
import Derived.Deep.RegionWith
import Derived.Laws.CopyOwn
import Derived.Maps.OwnOps
import Derived.Maps.OwnSet
import Derived.Laws.OwnMore
import Derived.Maps.AppendAt
import Derived.Test.YtgppdbiimlbpjaaDoorShelF
import Derived.RangeFuncNested
import Derived.RangeFuncBound
import Derived.RangeFuncCalls
import Derived.RangeFuncLeaves
import Derived.RangeFuncBox
import Derived.RangeFuncFrom
import Derived.Shelf.Abstract
import Derived.Shelf.RegionOpen
import Derived.OwnWalkIn
import Derived.TacticsInMore
import Derived.LoopNIn
import Derived.LoopIn
namespace Go.Proofs.YtgppdbiimlbpjaaDoor
set_option linter.unusedVariables false
set_option linter.unusedSimpArgs false
open Go.RowKit

theorem mA : [1, 2, 0, 3] ∈ pl 4 := by decide
theorem mB : [1, 0, 3, 2] ∈ pl 4 := by decide
theorem gA : Good 4 (fun_ [1, 2, 0, 3]) := (pl_good (by decide) (by decide) mA).2
theorem gB : Good 4 (fun_ [1, 0, 3, 2]) := (pl_good (by decide) (by decide) mB).2
theorem eA : ∀ i, i < 4 → fl [1, 2, 0, 3] i = zf (fun_ [1, 2, 0, 3]) i := by decide
theorem eB : ∀ i, i < 4 → fl [1, 0, 3, 2] i = zf (fun_ [1, 0, 3, 2]) i := by decide
theorem eX : ∀ i, i < 4 → zf (fun i => fun_ [1, 2, 0, 3] (fun_ [1, 0, 3, 2] i)) i = fl [2, 1, 3, 0] i := by decide
theorem eY : ∀ i, i < 4 → zf (fun i => fun_ [1, 0, 3, 2] (fun_ [1, 2, 0, 3] i)) i = fl [0, 3, 1, 2] i := by decide
theorem eZ : ∀ i, i < 4 → sct (fun_ [1, 2, 0, 3]) (zf fun i => i) 4 i = fl [2, 0, 1, 3] i := by decide
theorem eO1 : ordl 4 (fun_ [1, 2, 0, 3]) = 3 := by decide
theorem eO2 : ordl 4 (fun_ [1, 0, 3, 2]) = 2 := by decide
theorem eT1 : ptx 4 (fun_ [1, 2, 0, 3]) = { data := #[40, 48, 32, 49, 32, 50, 41] } := by decide +kernel
theorem eT2 : ptx 4 (fun_ [1, 0, 3, 2]) = { data := #[40, 48, 32, 49, 41, 40, 50, 32, 51, 41] } := by decide +kernel
theorem eS : img (fun_ [1, 2, 0, 3]) 9 4 = 10 := by decide
theorem eV : ∀ i, i < 4 → sct (fun_ [1, 2, 0, 3]) (fl [5, 6, 7, 8]) 4 i = fl [7, 5, 6, 8] i := by decide
theorem eD : oall 4 (fun_ [1, 2, 0, 3]) 4 = false := by decide
theorem mG : ∀ k, k < 1 → (fun _ => [1, 2, 0] : Nat → List Nat) k ∈ pl 3 := by
  have h : [1, 2, 0] ∈ pl 3 := by decide
  exact fun _ _ => h
theorem eG : grp 3 (fun _ => [1, 2, 0]) 1 = [[0, 1, 2], [1, 2, 0], [2, 0, 1]] := by decide +kernel
theorem eG2 : inAll 3 [[0, 1, 2], [1, 2, 0], [2, 0, 1]] = [[0, 1, 2], [1, 2, 0], [2, 0, 1]] := by decide +kernel
def cl3 : Nat → List Int := fun c => [[0, 1, 2], [1, 2, 0], [2, 0, 1]].getD c []
theorem cl3_len : ∀ c, c < 3 → (cl3 c).length ≤ 1000000 := by
  intro c hc
  obtain rfl | rfl | rfl : c = 0 ∨ c = 1 ∨ c = 2 := by omega
  all_goals decide
theorem cl3_row : ∀ c, c < 3 → (cl3 c).length = 3 ∧ ∀ i, i < 3 → zf (fun_ ([[0, 1, 2], [1, 2, 0], [2, 0, 1]].getD c [])) i = (cl3 c).getD i 0 := by decide
theorem ls_of {w : World} {o : Option Addr} (h2 : inAll 3 [[0, 1, 2], [1, 2, 0], [2, 0, 1]] = [[0, 1, 2], [1, 2, 0], [2, 0, 1]]) (h : Lp w o ([[0, 1, 2], [1, 2, 0], [2, 0, 1]] : List (List Nat)).length 3 (inAll 3 [[0, 1, 2], [1, 2, 0], [2, 0, 1]])) : Ls w o 3 cl3 := fun _ => by
  rw [h2] at h
  obtain ⟨b, off, e, hb, hc⟩ := h.2 (by decide)
  refine ⟨b, off, e, hb, fun c hck => ?_⟩
  obtain ⟨oc, cc, h3, h4⟩ := hc c hck
  obtain ⟨r1, r2⟩ := cl3_row c hck
  rw [r1]
  exact ⟨oc, cc, h3, h4.congr r2⟩
theorem ps_lit (W : World) : Ps ((W.alloc (.cells (lsv [1, 2, 0]).toArray 3)).alloc (.cells #[.slice (some ⟨W.heap.size, 0, none⟩) 3 3] 22)) (some ⟨W.heap.size + 1, 0, none⟩) 1 3 (fun _ => [1, 2, 0]) := fun _ => by
  refine ⟨_, 0, rfl, by simp, fun c hc => ?_⟩
  have hc0 : c = 0 := by omega
  subst hc0
  have a0 := lz_lit [1, 2, 0] W 3
  have e : ∀ i, i < 3 → fl [1, 2, 0] i = zf (fun_ [1, 2, 0]) i := by decide
  have hb := Box.new (W.alloc (.cells (lsv [1, 2, 0]).toArray 3)) #[.slice (some ⟨W.heap.size, 0, none⟩) 3 3] 22
  rw [World.size_alloc] at hb
  exact ⟨_, 3, hb.cell 0, (a0.below ((Below.refl _ _).alloc (Nat.le_refl _) _)).congr e, Nat.le_refl _⟩
theorem Ls.congr {w : World} {o : Option Addr} {k : Nat} {L L' : Nat → List Int} (h : Ls w o k L) (e : ∀ c, c < k → L c = L' c) : Ls w o k L' := fun hn => by
  obtain ⟨b, off, e1, hl, hc⟩ := h hn
  refine ⟨b, off, e1, hl, fun c hk => ?_⟩
  rw [← e c hk]
  exact hc c hk
theorem ls_lit (W : World) : Ls ((((W.alloc (.cells (lsv [0, 1, 2]).toArray 3)).alloc (.cells (lsv [1, 2, 0]).toArray 3)).alloc (.cells (lsv [2, 0, 1]).toArray 3)).alloc (.cells #[.slice (some ⟨W.heap.size, 0, none⟩) 3 3, .slice (some ⟨W.heap.size + 1, 0, none⟩) 3 3, .slice (some ⟨W.heap.size + 1 + 1, 0, none⟩) 3 3] 22)) (some ⟨W.heap.size + 1 + 1 + 1, 0, none⟩) 3 cl3 := fun _ => by
  refine ⟨_, 0, rfl, by simp, fun c hc => ?_⟩
  have a0 := lz_lit [0, 1, 2] W 3
  have a1 := lz_lit [1, 2, 0] (W.alloc (.cells (lsv [0, 1, 2]).toArray 3)) 3
  have a2 := lz_lit [2, 0, 1] ((W.alloc (.cells (lsv [0, 1, 2]).toArray 3)).alloc (.cells (lsv [1, 2, 0]).toArray 3)) 3
  simp only [World.size_alloc] at a1 a2
  have up : ∀ (V : World) (o : Obj), Below V.heap.size V (V.alloc o) := fun V o => (Below.refl _ _).alloc (Nat.le_refl _) _
  obtain rfl | rfl | rfl : c = 0 ∨ c = 1 ∨ c = 2 := by omega
  · exact ⟨_, 3, Joins.cell_alloc_mark_at _ #[_, _, _] 22 (0, 0) _ 0 (by simp), ((a0.below (up _ _)).below (up _ _)).below (up _ _)⟩
  · exact ⟨_, 3, Joins.cell_alloc_mark_at _ #[_, _, _] 22 (0, 0) _ 1 (by simp), (a1.below (up _ _)).below (up _ _)⟩
  · exact ⟨_, 3, Joins.cell_alloc_mark_at _ #[_, _, _] 22 (0, 0) _ 2 (by simp), a2.below (up _ _)⟩

set_option maxRecDepth 100000 in
set_option maxHeartbeats 4000000 in
theorem awake_ok (w : World) : Calls Tryd.prog 12 #[] w fun e w' => e = .returned (.bool true) ∧ Below w.heap.size w w' := by
  go_enter Tryd.func12, Tryd.ntmps12
  have BB := Lib.hid (show Below w.heap.size w ((w.alloc (.cells (lsv [1, 2, 0, 3]).toArray 3)).alloc (.cells (lsv [1, 0, 3, 2]).toArray 3)) from ((Below.refl _ _).alloc (Nat.le_refl _) _).alloc (by simp) _)
  have LA := Lib.hid (show Lq ((w.alloc (.cells (lsv [1, 2, 0, 3]).toArray 3)).alloc (.cells (lsv [1, 0, 3, 2]).toArray 3)) (some ⟨w.heap.size, 0, none⟩) 4 4 (zf (fun_ [1, 2, 0, 3])) from ⟨((lz_lit [1, 2, 0, 3] w 3).below ((Below.refl _ _).alloc (Nat.le_refl _) _)).congr eA, Nat.le_refl _⟩)
  have LB := Lib.hid (show Lq ((w.alloc (.cells (lsv [1, 2, 0, 3]).toArray 3)).alloc (.cells (lsv [1, 0, 3, 2]).toArray 3)) (some ⟨w.heap.size + 1, 0, none⟩) 4 4 (zf (fun_ [1, 0, 3, 2])) from ⟨(by have h := lz_lit [1, 0, 3, 2] (w.alloc (.cells (lsv [1, 2, 0, 3]).toArray 3)) 3; rw [World.size_alloc] at h; exact h.congr eB), Nat.le_refl _⟩)
  go_wp2_with fail
  refine (comp_good 4 (fun_ [1, 2, 0, 3]) (fun_ [1, 0, 3, 2]) gA gB _ _ _ _ _ LA.out LB.out).mono ?_
  rintro e W1 ⟨ox, cx, rfl, hq, hbn⟩
  have LA' := Lib.hid (LA.out.below hbn)
  have LB' := Lib.hid (LB.out.below hbn)
  have BB' := Lib.hid (BB.out.trans (Joins.below_le hbn BB.out.size))
  have Lx' := Lib.hid (hq.congr eX)
  clear LA LB BB hbn 
  have LA := LA'; clear LA'; have LB := LB'; clear LB'; have Lx := Lx'; clear Lx'; have BB := BB'; clear BB'
  go_wp2_with fail
  refine (comp_good 4 (fun_ [1, 0, 3, 2]) (fun_ [1, 2, 0, 3]) gB gA _ _ _ _ _ LB.out LA.out).mono ?_
  rintro e W2 ⟨oy, cy, rfl, hq, hbn⟩
  have LA' := Lib.hid (LA.out.below hbn)
  have LB' := Lib.hid (LB.out.below hbn)
  have Lx' := Lib.hid (Lx.out.below hbn)
  have BB' := Lib.hid (BB.out.trans (Joins.below_le hbn BB.out.size))
  have Ly' := Lib.hid (hq.congr eY)
  clear LA LB Lx BB hbn 
  have LA := LA'; clear LA'; have LB := LB'; clear LB'; have Lx := Lx'; clear Lx'; have Ly := Ly'; clear Ly'; have BB := BB'; clear BB'
  go_wp2_with fail
  refine (inv_good 4 (fun_ [1, 2, 0, 3]) gA _ _ _ LA.out).mono ?_
  rintro e W3 ⟨oz, cz, rfl, hq, hbn⟩
  have LA' := Lib.hid (LA.out.below hbn)
  have LB' := Lib.hid (LB.out.below hbn)
  have Lx' := Lib.hid (Lx.out.below hbn)
  have Ly' := Lib.hid (Ly.out.below hbn)
  have BB' := Lib.hid (BB.out.trans (Joins.below_le hbn BB.out.size))
  have Lz' := Lib.hid (hq.congr eZ)
  clear LA LB Lx Ly BB hbn 
  have LA := LA'; clear LA'; have LB := LB'; clear LB'; have Lx := Lx'; clear Lx'; have Ly := Ly'; clear Ly'; have Lz := Lz'; clear Lz'; have BB := BB'; clear BB'
  go_wp2_with fail
  refine (ord_good 4 (fun_ [1, 2, 0, 3]) gA _ _ _ LA.out).mono ?_
  rw [eO1]
  rintro e W4 ⟨rfl, hbn⟩
  have LA' := Lib.hid (LA.out.below hbn)
  have LB' := Lib.hid (LB.out.below hbn)
  have Lx' := Lib.hid (Lx.out.below hbn)
  have Ly' := Lib.hid (Ly.out.below hbn)
  have Lz' := Lib.hid (Lz.out.below hbn)
  have BB' := Lib.hid (BB.out.trans (Joins.below_le hbn BB.out.size))
  clear LA LB Lx Ly Lz BB hbn
  have LA := LA'; clear LA'; have LB := LB'; clear LB'; have Lx := Lx'; clear Lx'; have Ly := Ly'; clear Ly'; have Lz := Lz'; clear Lz'; have BB := BB'; clear BB'
  go_wp2_with fail
  refine (ord_good 4 (fun_ [1, 0, 3, 2]) gB _ _ _ LB.out).mono ?_
  rw [eO2]
  rintro e W5 ⟨rfl, hbn⟩
  have LA' := Lib.hid (LA.out.below hbn)
  have LB' := Lib.hid (LB.out.below hbn)
  have Lx' := Lib.hid (Lx.out.below hbn)
  have Ly' := Lib.hid (Ly.out.below hbn)
  have Lz' := Lib.hid (Lz.out.below hbn)
  have BB' := Lib.hid (BB.out.trans (Joins.below_le hbn BB.out.size))
  clear LA LB Lx Ly Lz BB hbn
  have LA := LA'; clear LA'; have LB := LB'; clear LB'; have Lx := Lx'; clear Lx'; have Ly := Ly'; clear Ly'; have Lz := Lz'; clear Lz'; have BB := BB'; clear BB'
  go_wp2_with fail
  refine (equal_any 4 4 (by decide) (fl [2, 1, 3, 0]) (fl [2, 1, 3, 0]) _ _ _ _ _ (Lx.out.1.below ((Below.refl _ _).alloc (Nat.le_refl _) _)) (lz_lit [2, 1, 3, 0] W5 3)).mono ?_
  rw [eqb_self (fun _ _ => rfl)]
  rintro e W6 ⟨rfl, hbn⟩
  replace hbn : Below W5.heap.size W5 W6 := ((Below.refl _ _).alloc (Nat.le_refl _) _).trans (hbn.mono (by simp))
  have LA' := Lib.hid (LA.out.below hbn)
  have LB' := Lib.hid (LB.out.below hbn)
  have Lx' := Lib.hid (Lx.out.below hbn)
  have Ly' := Lib.hid (Ly.out.below hbn)
  have Lz' := Lib.hid (Lz.out.below hbn)
  have BB' := Lib.hid (BB.out.trans (Joins.below_le hbn BB.out.size))
  clear LA LB Lx Ly Lz BB hbn
  have LA := LA'; clear LA'; have LB := LB'; clear LB'; have Lx := Lx'; clear Lx'; have Ly := Ly'; clear Ly'; have Lz := Lz'; clear Lz'; have BB := BB'; clear BB'
  clear Lx
  go_wp2_with fail
  refine (equal_any 4 4 (by decide) (fl [0, 3, 1, 2]) (fl [0, 3, 1, 2]) _ _ _ _ _ (Ly.out.1.below ((Below.refl _ _).alloc (Nat.le_refl _) _)) (lz_lit [0, 3, 1, 2] W6 3)).mono ?_
  rw [eqb_self (fun _ _ => rfl)]
  rintro e W7 ⟨rfl, hbn⟩
  replace hbn : Below W6.heap.size W6 W7 := ((Below.refl _ _).alloc (Nat.le_refl _) _).trans (hbn.mono (by simp))
  have LA' := Lib.hid (LA.out.below hbn)
  have LB' := Lib.hid (LB.out.below hbn)
  have Ly' := Lib.hid (Ly.out.below hbn)
  have Lz' := Lib.hid (Lz.out.below hbn)
  have BB' := Lib.hid (BB.out.trans (Joins.below_le hbn BB.out.size))
  clear LA LB Ly Lz BB hbn
  have LA := LA'; clear LA'; have LB := LB'; clear LB'; have Ly := Ly'; clear Ly'; have Lz := Lz'; clear Lz'; have BB := BB'; clear BB'
  clear Ly
  go_wp2_with fail
  refine (equal_any 4 4 (by decide) (fl [2, 0, 1, 3]) (fl [2, 0, 1, 3]) _ _ _ _ _ (Lz.out.1.below ((Below.refl _ _).alloc (Nat.le_refl _) _)) (lz_lit [2, 0, 1, 3] W7 3)).mono ?_
  rw [eqb_self (fun _ _ => rfl)]
  rintro e W8 ⟨rfl, hbn⟩
  replace hbn : Below W7.heap.size W7 W8 := ((Below.refl _ _).alloc (Nat.le_refl _) _).trans (hbn.mono (by simp))
  have LA' := Lib.hid (LA.out.below hbn)
  have LB' := Lib.hid (LB.out.below hbn)
  have Lz' := Lib.hid (Lz.out.below hbn)
  have BB' := Lib.hid (BB.out.trans (Joins.below_le hbn BB.out.size))
  clear LA LB Lz BB hbn
  have LA := LA'; clear LA'; have LB := LB'; clear LB'; have Lz := Lz'; clear Lz'; have BB := BB'; clear BB'
  clear Lz
  go_wp2_with fail
  refine (callsIn_wide.1 (fmt_in 4 (fun_ [1, 2, 0, 3]) gA _ _ _ LA.out)).mono ?_
  rw [eT1]
  rintro e W9 ⟨rfl, hbn⟩
  have LA' := Lib.hid (LA.out.below hbn)
  have LB' := Lib.hid (LB.out.below hbn)
  have BB' := Lib.hid (BB.out.trans (Joins.below_le hbn BB.out.size))
  clear LA LB BB hbn
  have LA := LA'; clear LA'; have LB := LB'; clear LB'; have BB := BB'; clear BB'
  go_wp2_with fail
  refine (callsIn_wide.1 (fmt_in 4 (fun_ [1, 0, 3, 2]) gB _ _ _ LB.out)).mono ?_
  rw [eT2]
  rintro e W10 ⟨rfl, hbn⟩
  have LA' := Lib.hid (LA.out.below hbn)
  have LB' := Lib.hid (LB.out.below hbn)
  have BB' := Lib.hid (BB.out.trans (Joins.below_le hbn BB.out.size))
  clear LA LB BB hbn
  have LA := LA'; clear LA'; have LB := LB'; clear LB'; have BB := BB'; clear BB'
  go_wp2_with fail
  refine (set_good 4 (fun_ [1, 2, 0, 3]) gA 9 (by decide) _ _ _ LA.out).mono ?_
  rw [eS]
  rintro e W11 ⟨rfl, hbn⟩
  have LA' := Lib.hid (LA.out.below hbn)
  have LB' := Lib.hid (LB.out.below hbn)
  have BB' := Lib.hid (BB.out.trans (Joins.below_le hbn BB.out.size))
  clear LA LB BB hbn
  have LA := LA'; clear LA'; have LB := LB'; clear LB'; have BB := BB'; clear BB'
  go_wp2_with fail
  refine (vecr_good 4 (fun_ [1, 2, 0, 3]) gA (fl [5, 6, 7, 8]) _ _ _ _ _ (LA.out.below ((Below.refl _ _).alloc (Nat.le_refl _) _)) (lz_lit [5, 6, 7, 8] W11 3)).mono ?_
  rintro e W12 ⟨ov, cv, rfl, hq, hbn⟩
  replace hbn : Below W11.heap.size W11 W12 := ((Below.refl _ _).alloc (Nat.le_refl _) _).trans (hbn.mono (by simp))
  have LA' := Lib.hid (LA.out.below hbn)
  have LB' := Lib.hid (LB.out.below hbn)
  have BB' := Lib.hid (BB.out.trans (Joins.below_le hbn BB.out.size))
  have Lv' := Lib.hid (hq.congr eV)
  clear LA LB BB hbn 
  have LA := LA'; clear LA'; have LB := LB'; clear LB'; have Lv := Lv'; clear Lv'; have BB := BB'; clear BB'
  go_wp2_with fail
  refine (gen_good 3 (by decide) (by decide) 1 (by decide) (fun _ => [1, 2, 0]) mG _ _ _ (ps_lit W12)).mono ?_
  rw [eG]
  rintro e W13 ⟨ol, cl, rfl, hl0, hbn⟩
  have hl := hl0.lp
  replace hbn : Below W12.heap.size W12 W13 := (((Below.refl _ _).alloc (Nat.le_refl _) _).alloc (by simp) _).trans (hbn.mono (by simp; omega))
  have LA' := Lib.hid (LA.out.below hbn)
  have LB' := Lib.hid (LB.out.below hbn)
  have Lv' := Lib.hid (Lv.out.below hbn)
  have BB' := Lib.hid (BB.out.trans (Joins.below_le hbn BB.out.size))
  have Ll' := Lib.hid (ls_of eG2 hl)
  clear LA LB Lv BB hbn 
  have LA := LA'; clear LA'; have LB := LB'; clear LB'; have Lv := Lv'; clear Lv'; have Ll := Ll'; clear Ll'; have BB := BB'; clear BB'
  go_wp2_with fail
  refine (odd_good 4 (fun_ [1, 2, 0, 3]) gA _ _ _ LA.out).mono ?_
  rw [eD]
  rintro e W14 ⟨rfl, hbn⟩
  have LA' := Lib.hid (LA.out.below hbn)
  have LB' := Lib.hid (LB.out.below hbn)
  have Lv' := Lib.hid (Lv.out.below hbn)
  have Ll' := Lib.hid (Ll.out.below hbn)
  have BB' := Lib.hid (BB.out.trans (Joins.below_le hbn BB.out.size))
  clear LA LB Lv Ll BB hbn
  have LA := LA'; clear LA'; have LB := LB'; clear LB'; have Lv := Lv'; clear Lv'; have Ll := Ll'; clear Ll'; have BB := BB'; clear BB'
  go_wp2_with fail
  refine (equal_any 4 4 (by decide) (fl [7, 5, 6, 8]) (fl [7, 5, 6, 8]) _ _ _ _ _ (Lv.out.1.below ((Below.refl _ _).alloc (Nat.le_refl _) _)) (lz_lit [7, 5, 6, 8] W14 3)).mono ?_
  rw [eqb_self (fun _ _ => rfl)]
  rintro e W15 ⟨rfl, hbn⟩
  replace hbn : Below W14.heap.size W14 W15 := ((Below.refl _ _).alloc (Nat.le_refl _) _).trans (hbn.mono (by simp))
  have LA' := Lib.hid (LA.out.below hbn)
  have LB' := Lib.hid (LB.out.below hbn)
  have Lv' := Lib.hid (Lv.out.below hbn)
  have Ll' := Lib.hid (Ll.out.below hbn)
  have BB' := Lib.hid (BB.out.trans (Joins.below_le hbn BB.out.size))
  clear LA LB Lv Ll BB hbn
  have LA := LA'; clear LA'; have LB := LB'; clear LB'; have Lv := Lv'; clear Lv'; have Ll := Ll'; clear Ll'; have BB := BB'; clear BB'
  clear Lv
  go_wp2_with fail
  have hq1 : Below W15.heap.size W15 ((((W15.alloc (.cells (lsv [0, 1, 2]).toArray 3)).alloc (.cells (lsv [1, 2, 0]).toArray 3)).alloc (.cells (lsv [2, 0, 1]).toArray 3)).alloc (.cells #[.slice (some ⟨W15.heap.size, 0, none⟩) 3 3, .slice (some ⟨W15.heap.size + 1, 0, none⟩) 3 3, .slice (some ⟨W15.heap.size + 1 + 1, 0, none⟩) 3 3] 22)) := ((((Below.refl _ _).alloc (Nat.le_refl _) _).alloc (by simp) _).alloc (by simp; omega) _).alloc (by simp; omega) _
  have HQ := Lib.hid hq1
  clear hq1
  refine (samelists_ok 3 (by decide) cl3 cl3_len ol (some ⟨W15.heap.size + 1 + 1 + 1, 0, none⟩) cl 3 _ (Ll.out.below HQ.out) (ls_lit W15)).mono ?_
  rintro e W16 ⟨rfl, d, hd⟩
  have hbn : Below W15.heap.size W15 W16 := by rw [hd]; exact below_dn _ HQ.out
  have BF := Lib.hid (BB.out.trans (Joins.below_le hbn BB.out.size))
  clear hd hbn HQ LA LB Ll BB
  go_wp2_with fail
  go_ret
  exact ⟨rfl, BF.out⟩

end Go.Proofs.YtgppdbiimlbpjaaDoor
