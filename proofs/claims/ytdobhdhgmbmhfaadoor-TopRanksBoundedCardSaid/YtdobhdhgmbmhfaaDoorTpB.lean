/- What the laws on systems, kernels and ranks share. -/
import Derived.Test.YtdobhdhgmbmhfaaDoorMyS
import Derived.Test.YtdobhdhgmbmhfaaDoorMyZ
import Derived.Test.YtdobhdhgmbmhfaaDoorNdA
import Derived.WalkKit
import Derived.WalkSpells
import Derived.WalkLawsBesides
import Derived.Handy
import Derived.Deep.QuietTactic
import Derived.BigQuiet
import Derived.Outline
import Derived.Laws.BitsAllLaws
import Derived.IntWalk
import Derived.Lib.SmallJoins
import Derived.Lib.Hide
import Derived.Deep.DeepCutAuto
import Derived.LoopTactic
import Derived.Deep.RegionWith
import Derived.Laws.CopyOwn
import Derived.Maps.OwnOps
import Derived.Maps.OwnSet
import Derived.Laws.OwnMore
import Derived.Maps.AppendAt
import Derived.RangeFuncNested
import Derived.RangeFuncBound
import Derived.RangeFuncCalls
import Derived.RangeFuncLeaves
import Derived.RangeFuncBox
import Derived.RangeFuncFrom
import Derived.Shelf.Abstract
import Derived.Shelf.RegionOpen
import Derived.OwnWalkIn
import Derived.TacticsInMore
import Derived.LoopNIn
import Derived.LoopIn
import Derived.Deep.RegionHeld3
import Derived.RegionTactic
import Derived.ChangeAlike
namespace Go.Proofs.YtdobhdhgmbmhfaaDoor
set_option linter.unusedVariables false
set_option linter.unusedSimpArgs false
open Go.RowKit


def MOk (C : Int) (o : Option Addr) (K : Nat) (w : World) : Prop := ∃ (N : Nat) (r : Nat → Nat), C = (N : Int) ∧ N ≤ 14 ∧ K ≤ 14 ∧ (∀ c, c < K → r c < 2 ^ N) ∧ Mx w o K N r
theorem one_mats (U : World) (C : Int) (o : Option Addr) (K cap : Nat) (t : TypeId) : Mats (U.alloc (.cells #[.int .i64 C, .slice o K cap] t)) U.heap.size 1 (fun _ => C) (fun _ => o) (fun _ => K) (fun _ => cap) := by
  have b := Box.new U #[.int .i64 C, .slice o K cap] t
  refine ⟨b.lt, fun c hc => ?_, fun c hc => ?_⟩
  · obtain rfl : c = 0 := by omega
    exact b.cell 0
  · obtain rfl : c = 0 := by omega
    exact b.cell 1
theorem two_mats (U : World) (C D : Int) (o p : Option Addr) (K M cap cap' : Nat) (t : TypeId) : Mats (U.alloc (.cells #[.int .i64 C, .slice o K cap, .int .i64 D, .slice p M cap'] t)) U.heap.size 2 (fun c => if c = 0 then C else D) (fun c => if c = 0 then o else p) (fun c => if c = 0 then K else M) (fun c => if c = 0 then cap else cap') := by
  have b := Box.new U #[.int .i64 C, .slice o K cap, .int .i64 D, .slice p M cap'] t
  refine ⟨b.lt, fun c hc => ?_, fun c hc => ?_⟩
  · match c, hc with
    | 0, _ => exact b.cell 0
    | 1, _ => exact b.cell 2
  · match c, hc with
    | 0, _ => exact b.cell 1
    | 1, _ => exact b.cell 3
set_option maxHeartbeats 4000000 in
theorem play_all (n : Nat) (hn : n ≤ 10) (b : Nat) (C : Nat → Int) (o : Nat → Option Addr) (K cap : Nat → Nat) (w : World) (hM : Mats w b n C o K cap)
    (QQ GG : Nat → Prop) (hF : ∀ c, c < n → ∀ W, Below w.heap.size w W → Calls Tryd.prog 18 #[mv (C c) (o c) (K c) (cap c)] W (FewRq (QQ c) W))
    (hG : ∀ c, c < n → QQ c → ∃ v : Int, (∀ W, Below w.heap.size w W → Calls Tryd.prog 19 #[mv (C c) (o c) (K c) (cap c)] W fun e w' => e = .returned (.int .i64 v) ∧ Below W.heap.size W w') ∧ (v = 0 → GG c)) :
    Calls Tryd.prog 7 #[.slice (some ⟨b, 0, none⟩) n n] w fun e w' => (∃ r, e = .returned (.bool r) ∧ (r = true → ∀ c, c < n → GG c)) ∧ Below w.heap.size w w' := by
  have HM := Lib.hid hM
  have HF := Lib.hid hF
  have HG := Lib.hid hG
  clear hM hF hG
  go_enter Tryd.func7, Tryd.ntmps7
  go_wp2_with fail
  go_loopw [7] (fun j wr => ∃ c : Nat, c ≤ n ∧ j = .int .i64 (c : Int) ∧ (∀ d, d < c → GG d) ∧ Below w.heap.size w wr) (fun j _ => n - (intOf j).toNat)
  case atStart => exact ⟨0, by omega, by first | trivial | rfl, fun d h => absurd h (Nat.not_lt_zero _), Below.refl _ _⟩
  case round =>
    obtain ⟨c, hc, rfl, hall, hbe⟩ := hrel
    have HAll := Lib.hid hall
    have HBe := Lib.hid hbe
    by_cases hlt : c < n
    · have hc1 : (c : Int) < (n : Int) := by omega
      have e0 := (hbe.cell (p := ⟨b, c * 2, none⟩) HM.out.lt).trans (HM.out.c0 c hlt)
      have e1 := (hbe.cell (p := ⟨b, c * 2 + 1, none⟩) HM.out.lt).trans (HM.out.c1 c hlt)
      have hbx : Below w.heap.size w (wr.alloc (.cells #[.int .i64 (C c), .slice (o c) (K c) (cap c)] 24)) := hbe.alloc hbe.size _
      have HFc := Lib.hid (HF.out c hlt _ hbx)
      have HBx := Lib.hid hbx
      have HGc := Lib.hid (HG.out c hlt)
      obtain ⟨Cc, hC⟩ : ∃ x, C c = x := ⟨_, rfl⟩
      obtain ⟨oo, ho⟩ : ∃ x, o c = x := ⟨_, rfl⟩
      obtain ⟨kk, hk⟩ : ∃ x, K c = x := ⟨_, rfl⟩
      obtain ⟨pp, hp⟩ : ∃ x, cap c = x := ⟨_, rfl⟩
      rw [hC, ho, hk, hp] at HFc HBx HGc
      rw [hC] at e0
      rw [ho, hk, hp] at e1
      unfold mv at HFc HGc
      clear hall hbe hC ho hk hp hbx
      go_wp2_with fail
      refine HFc.out.mono ?_
      rintro e w' ⟨r, rfl, hr, hb2⟩
      have HR := Lib.hid hr
      have HB2 := Lib.hid (HBx.out.trans (Joins.below_le hb2 HBx.out.size))
      have hX := (Box.new wr #[.int .i64 Cc, .slice oo kk pp] 24).below hb2 (by simp)
      have X0 := hX.cell 0
      have X1 := hX.cell 1
      clear hr hb2 hX e0 e1
      cases r with
      | true =>
        obtain ⟨v, hv1, hv2⟩ := HGc.out (HR.out rfl)
        have HV := Lib.hid (hv1 w' HB2.out)
        have HV2 := Lib.hid hv2
        clear hv1 hv2 HGc
        go_wp2_with fail
        refine HV.out.mono ?_
        rintro e w4 ⟨rfl, hb4⟩
        have HB4 := Lib.hid (HB2.out.trans (Joins.below_le hb4 HB2.out.size))
        clear hb4 X0 X1
        by_cases hv0 : v = 0
        · subst hv0
          go_wp2_with fail
          go_roundw
          case rel =>
            refine ⟨c + 1, by omega, by go_num, fun d hd => ?_, HB4.out⟩
            by_cases e : d = c
            · rw [e]; exact HV2.out (by first | trivial | rfl)
            · exact HAll.out d (by omega)
          case measure => simp [intOf]; omega
        · have g1 : (v != 0) = true := by rw [bne_iff_ne]; exact hv0
          go_wp2_with fail
          go_ret
          exact ⟨⟨false, rfl, fun h => by cases h⟩, HB4.out⟩
      | false =>
        go_wp2_with fail
        go_ret
        exact ⟨⟨false, rfl, fun h => by cases h⟩, HB2.out⟩
    · have e : c = n := by omega
      subst e
      clear hlt hall hbe
      go_wp2_with fail
      go_ret
      exact ⟨⟨true, rfl, fun _ => HAll.out⟩, HBe.out⟩

theorem play_one (C : Int) (o : Option Addr) (K cap : Nat) (oc : Nat → Option Addr) (nc cc : Nat → Nat) (xc : Nat → Nat → Int) (t : TypeId) (w : World) (hL : Lv w o K oc nc cc xc) : Calls Tryd.prog 7 #[.slice (some ⟨w.heap.size, 0, none⟩) 1 1] (w.alloc (.cells #[.int .i64 C, .slice o K cap] t)) fun e w' => (∃ r, e = .returned (.bool r) ∧ (r = true → MOk C o K w)) ∧ Below w.heap.size w w' := by
  have hb : Below w.heap.size w (w.alloc (.cells #[.int .i64 C, .slice o K cap] t)) := al1 _ _
  refine (play_all 1 (by omega) w.heap.size _ _ _ _ _ (one_mats w C o K cap t) (fun _ => FewQ C K nc) (fun _ => MOk C o K w) (fun c hc W hW => few_q C K o cap oc nc cc xc W ((hL.below hb).below hW)) (fun c hc hq => ?_)).mono ?_
  · obtain ⟨v, h1, h2⟩ := (mst_of (cap := cap) hq hL).code
    exact ⟨v, fun W hW => (h1 W (hb.trans (hW.mono hb.size))).2, h2⟩
  · rintro e w' ⟨⟨r, h1, h2⟩, h3⟩
    exact ⟨⟨r, h1, fun hr => h2 hr 0 (by omega)⟩, hb.trans (h3.mono hb.size)⟩
theorem play_two (C D : Int) (o p : Option Addr) (K M cap cap' : Nat) (oc od : Nat → Option Addr) (nc cc nd cd : Nat → Nat) (xc xd : Nat → Nat → Int) (t : TypeId) (w : World) (hL : Lv w o K oc nc cc xc) (hL' : Lv w p M od nd cd xd) : Calls Tryd.prog 7 #[.slice (some ⟨w.heap.size, 0, none⟩) 2 2] (w.alloc (.cells #[.int .i64 C, .slice o K cap, .int .i64 D, .slice p M cap'] t)) fun e w' => (∃ r, e = .returned (.bool r) ∧ (r = true → MOk C o K w ∧ MOk D p M w)) ∧ Below w.heap.size w w' := by
  have hb : Below w.heap.size w (w.alloc (.cells #[.int .i64 C, .slice o K cap, .int .i64 D, .slice p M cap'] t)) := al1 _ _
  refine (play_all 2 (by omega) w.heap.size _ _ _ _ _ (two_mats w C D o p K M cap cap' t) (fun c => if c = 0 then FewQ C K nc else FewQ D M nd) (fun c => if c = 0 then MOk C o K w else MOk D p M w) (fun c hc W hW => ?_) (fun c hc hq => ?_)).mono ?_
  · match c, hc with
    | 0, _ => exact few_q C K o cap oc nc cc xc W ((hL.below hb).below hW)
    | 1, _ => exact few_q D M p cap' od nd cd xd W ((hL'.below hb).below hW)
  · match c, hc, hq with
    | 0, _, hq =>
      obtain ⟨v, h1, h2⟩ := (mst_of (cap := cap) hq hL).code
      exact ⟨v, fun W hW => (h1 W (hb.trans (hW.mono hb.size))).2, h2⟩
    | 1, _, hq =>
      obtain ⟨v, h1, h2⟩ := (mst_of (cap := cap') hq hL').code
      exact ⟨v, fun W hW => (h1 W (hb.trans (hW.mono hb.size))).2, h2⟩
  · rintro e w' ⟨⟨r, h1, h2⟩, h3⟩
    exact ⟨⟨r, h1, fun hr => ⟨h2 hr 0 (by omega), h2 hr 1 (by omega)⟩⟩, hb.trans (h3.mono hb.size)⟩
def ex3 : Nat → Nat := fun i => if i = 0 then 3 else if i = 1 then 6 else 5
theorem ex3_lt : ∀ i, i < 3 → ex3 i < 2 ^ 3 := by decide
def et3 : Nat → Nat := fun c => if c = 0 then 5 else if c = 1 then 6 else 0
theorem ex3_can : Can 3 (rows 3 ex3) [0, 1] et3 := by
  have e1 : rows 3 ex3 = [3, 6, 5] := by decide
  have e2 : [0, 1].map et3 = [5, 6] := by decide
  refine ⟨by decide, ech_of (by decide) (fun c hc => ?_) (by decide), ?_, fun c hc => ?_⟩
  · simp only [List.mem_cons, List.not_mem_nil, or_false] at hc
    obtain rfl | rfl := hc
    · exact ⟨by decide, by decide⟩
    · exact ⟨by decide, by decide⟩
  · rw [e1, e2]
    have h5 : Sp [5, 6] 5 := .row (by decide)
    have h6 : Sp [5, 6] 6 := .row (by decide)
    refine ⟨fun x hx => ?_, fun x hx => .row ?_⟩
    · simp only [List.mem_cons, List.not_mem_nil, or_false] at hx
      obtain rfl | rfl | rfl := hx
      · exact h5.sum h6
      · exact h6
      · exact h5
    · simp only [List.mem_cons, List.not_mem_nil, or_false] at hx ⊢
      omega
  · simp only [List.mem_cons, List.not_mem_nil, or_false] at hc
    unfold et3
    rw [if_neg (by omega), if_neg (by omega)]
theorem ex3_no : ∀ s, s < 2 ^ 3 → imr 3 3 ex3 s ≠ 1 := by decide +kernel
theorem ex3_ref {y : Nat} (h : Rf 3 ex3 1 y) (hy : y < 2 ^ 3) : y = 7 := by
  have key : ∀ y, y < 8 → sumr ex3 0 (el 3 y) = 0 → odl 1 (el 3 y) = true → y = 7 := by decide +kernel
  exact key y hy h.1 h.2
theorem ex3_rank (o : Option Addr) (cap : Nat) (W : World) (hM : Mx W o 3 3 ex3) (hT : Tb W) : Calls Tryd.prog 17 #[.agg #[.int .i64 3, .slice o 3 cap]] W fun e w' => e = .returned (.tuple #[.int .i64 2, .int .i64 0]) ∧ Below W.heap.size W w' :=
  (rank_good 3 3 (by omega) (by omega) ex3 ex3_lt _ _ ex3_can sort_ok o cap W hM hT).mono fun e w' ⟨h1, h3⟩ => ⟨h1, h3⟩
theorem ex3_solve (o p : Option Addr) (cap cp : Nat) (W : World) (hM : Mx W o 3 3 ex3) (hL : Lz W p 1 (lz [0])) (hT : Tb W) : Calls Tryd.prog 9 #[.agg #[.int .i64 3, .slice o 3 cap], .slice p 1 cp] W fun e w' => ∃ yo yc, e = .returned (.tuple #[.slice none 0 0, .slice yo 3 yc, .bool false, .int .i64 0]) ∧ Lz w' yo 3 (lz [0, 1, 2]) ∧ Below W.heap.size W w' := by
  have e1 : el 3 1 = [0] := by decide
  have e2 : el 3 7 = [0, 1, 2] := by decide
  have hv : Vz W p 1 3 1 := ⟨by rw [e1]; rfl, by rw [e1]; exact hL⟩
  refine (vz_solve 3 3 (by omega) ex3 ex3_lt 1 (by decide) o p cap 1 cp W hM hv hT).mono ?_
  rintro e w' (⟨s, xo, n, xc, rfl, h1, h2, h3, hb⟩ | ⟨y, fo, n, fc, rfl, h1, h2, h3, hb⟩)
  · exact absurd h3 (ex3_no s h2)
  · obtain rfl := ex3_ref h2 h3
    obtain ⟨rfl, hz⟩ := h1
    rw [e2] at hz ⊢
    exact ⟨fo, fc, rfl, hz, hb⟩
set_option maxRecDepth 100000 in
set_option maxHeartbeats 4000000 in
theorem awake3_ok (w : World) (hT : Tb w) : Calls Tryd.prog 6 #[] w fun e w' => e = .returned (.bool true) ∧ Below w.heap.size w w' := by
  have HT := Lib.hid hT
  clear hT
  go_enter Tryd.func6, Tryd.ntmps6
  go_wp2_with fail
  have hM4 : Mx ((((w.alloc (.cells #[.int .i64 0, .int .i64 1] 3)).alloc (.cells #[.int .i64 1, .int .i64 2] 3)).alloc (.cells #[.int .i64 0, .int .i64 2] 3)).alloc (.cells #[.slice (some ⟨w.heap.size, 0, none⟩) 2 2, .slice (some ⟨w.heap.size + 1, 0, none⟩) 2 2, .slice (some ⟨w.heap.size + 1 + 1, 0, none⟩) 2 2] 25)) (some ⟨w.heap.size + 1 + 1 + 1, 0, none⟩) 3 3 ex3 := lit3' w 3 25 [0, 1] [1, 2] [0, 2] (fun i => ints (el 3 (ex3 i))) (by decide) (by decide) (by decide)
  have hX : Box (((((w.alloc (.cells #[.int .i64 0, .int .i64 1] 3)).alloc (.cells #[.int .i64 1, .int .i64 2] 3)).alloc (.cells #[.int .i64 0, .int .i64 2] 3)).alloc (.cells #[.slice (some ⟨w.heap.size, 0, none⟩) 2 2, .slice (some ⟨w.heap.size + 1, 0, none⟩) 2 2, .slice (some ⟨w.heap.size + 1 + 1, 0, none⟩) 2 2] 25)).alloc (.cells #[.int .i64 3, .slice (some ⟨w.heap.size + 1 + 1 + 1, 0, none⟩) 3 3] 24)) (w.heap.size + 1 + 1 + 1 + 1) #[.int .i64 3, .slice (some ⟨w.heap.size + 1 + 1 + 1, 0, none⟩) 3 3] 24 := by have h := Box.new ((((w.alloc (.cells #[.int .i64 0, .int .i64 1] 3)).alloc (.cells #[.int .i64 1, .int .i64 2] 3)).alloc (.cells #[.int .i64 0, .int .i64 2] 3)).alloc (.cells #[.slice (some ⟨w.heap.size, 0, none⟩) 2 2, .slice (some ⟨w.heap.size + 1, 0, none⟩) 2 2, .slice (some ⟨w.heap.size + 1 + 1, 0, none⟩) 2 2] 25)) #[.int .i64 3, .slice (some ⟨w.heap.size + 1 + 1 + 1, 0, none⟩) 3 3] 24; simp only [World.size_alloc] at h; exact h
  have hb0 : Below w.heap.size w (((((w.alloc (.cells #[.int .i64 0, .int .i64 1] 3)).alloc (.cells #[.int .i64 1, .int .i64 2] 3)).alloc (.cells #[.int .i64 0, .int .i64 2] 3)).alloc (.cells #[.slice (some ⟨w.heap.size, 0, none⟩) 2 2, .slice (some ⟨w.heap.size + 1, 0, none⟩) 2 2, .slice (some ⟨w.heap.size + 1 + 1, 0, none⟩) 2 2] 25)).alloc (.cells #[.int .i64 3, .slice (some ⟨w.heap.size + 1 + 1 + 1, 0, none⟩) 3 3] 24)) := by repeat' (first | (with_reducible exact Below.refl _ _) | (with_reducible refine Below.alloc ?_ ?_ _) | go_size)
  have M := Lib.hid (hM4.below (al1 _ (.cells #[.int .i64 3, .slice (some ⟨w.heap.size + 1 + 1 + 1, 0, none⟩) 3 3] 24)))
  have XM := Lib.hid hX
  have HB := Lib.hid hb0
  have HT := Lib.hid (HT.out.here hb0)
  obtain ⟨W0, hW0⟩ : ∃ W0, ((((w.alloc (.cells #[.int .i64 0, .int .i64 1] 3)).alloc (.cells #[.int .i64 1, .int .i64 2] 3)).alloc (.cells #[.int .i64 0, .int .i64 2] 3)).alloc (.cells #[.slice (some ⟨w.heap.size, 0, none⟩) 2 2, .slice (some ⟨w.heap.size + 1, 0, none⟩) 2 2, .slice (some ⟨w.heap.size + 1 + 1, 0, none⟩) 2 2] 25)).alloc (.cells #[.int .i64 3, .slice (some ⟨w.heap.size + 1 + 1 + 1, 0, none⟩) 3 3] 24) = W0 := ⟨_, rfl⟩
  obtain ⟨S, hS⟩ : ∃ S, w.heap.size = S := ⟨_, rfl⟩
  rw [hW0] at M XM HB HT ⊢
  rw [hS] at M XM HB ⊢
  clear hM4 hX hb0 hW0
  refine (ex3_rank _ 3 W0 M.out HT.out).mono ?_
  rintro e W1 ⟨rfl, hb⟩
  have hbb := hb
  have M := Lib.hid (M.out.below hbb)
  have XM := Lib.hid (XM.out.below hbb XM.out.lt)
  have HB := Lib.hid (HB.out.trans (hbb.mono (by have := HB.out.size; omega)))
  have HT := Lib.hid (HT.out.here hbb)
  clear hb hbb
  have XM0 := XM.out.cell 0
  have XM1 := XM.out.cell 1
  have XM2 := fun ob => (XM.out.alloc ob).cell 0
  have XM3 := fun ob => (XM.out.alloc ob).cell 1
  go_wp2_with fail
  have hal : Below W1.heap.size W1 (W1.alloc (.cells #[.int .i64 0] 3)) := ((Below.refl _ _).alloc (by first | exact Nat.le_refl _ | (simp; done) | (simp; omega)) _)
  refine (ex3_solve _ _ 3 1 (W1.alloc (.cells #[.int .i64 0] 3)) (M.out.below hal) (vl W1 [0] 1 rfl) (HT.out.here hal)).mono ?_
  rintro e W2 ⟨yo, yc, rfl, hz, hb⟩
  have hbb : Below W1.heap.size W1 W2 := hal.trans (hb.mono hal.size)
  have Z := Lib.hid (hz)
  have HB2 := Lib.hid (hbb)
  have M := Lib.hid (M.out.below hbb)
  have XM := Lib.hid (XM.out.below hbb XM.out.lt)
  have HT := Lib.hid (HT.out.here hbb)
  clear XM0 XM1 XM2 XM3
  clear hal hbb hb hz
  have XM0 := XM.out.cell 0
  have XM1 := XM.out.cell 1
  have XM2 := fun ob => (XM.out.alloc ob).cell 0
  have XM3 := fun ob => (XM.out.alloc ob).cell 1
  go_wp2_with fail
  have hal : Below W2.heap.size W2 (W2.alloc (.cells #[.int .i64 0, .int .i64 1, .int .i64 2] 3)) := ((Below.refl _ _).alloc (by first | exact Nat.le_refl _ | (simp; done) | (simp; omega)) _)
  refine (ex_eq [0, 1, 2] (by decide) 3 rfl yo _ yc 3 (W2.alloc (.cells #[.int .i64 0, .int .i64 1, .int .i64 2] 3)) (Z.out.below hal) (vl W2 [0, 1, 2] 3 rfl)).mono ?_
  rintro e W3 ⟨rfl, hb⟩
  have hbb : Below W2.heap.size W2 W3 := hal.trans (hb.mono hal.size)
  have HB3 := Lib.hid (hbb)
  have M := Lib.hid (M.out.below hbb)
  have XM := Lib.hid (XM.out.below hbb XM.out.lt)
  have HT := Lib.hid (HT.out.here hbb)
  have Z := Lib.hid (Z.out.below hbb)
  clear XM0 XM1 XM2 XM3
  clear hal hbb hb
  have HF := Lib.hid ((HB.out.trans (HB2.out.mono (by have := HB.out.size; omega))).trans (HB3.out.mono (by have := HB.out.size; have := HB2.out.size; omega)))
  clear HB2 HB3
  go_wp2_with fail
  go_ret
  exact ⟨rfl, by rw [hS]; exact HF.out⟩

end Go.Proofs.YtdobhdhgmbmhfaaDoor
