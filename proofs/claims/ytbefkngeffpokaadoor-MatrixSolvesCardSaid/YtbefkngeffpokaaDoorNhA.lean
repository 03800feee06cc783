/- MatrixSolves, whatever the matrix and the vector. -/
import Derived.Test.YtbefkngeffpokaaDoorMyZ
import Derived.Test.YtbefkngeffpokaaDoorNgA
import Derived.WalkKit
import Derived.WalkSpells
import Derived.WalkLawsBesides
import Derived.Handy
import Derived.Deep.QuietTactic
import Derived.BigQuiet
import Derived.Outline
import Derived.Laws.BitsAllLaws
import Derived.IntWalk
import Derived.Lib.SmallJoins
import Derived.Lib.Hide
import Derived.Deep.DeepCutAuto
import Derived.LoopTactic
import Derived.Deep.RegionWith
import Derived.Laws.CopyOwn
import Derived.Maps.OwnOps
import Derived.Maps.OwnSet
import Derived.Laws.OwnMore
import Derived.Maps.AppendAt
import Derived.RangeFuncNested
import Derived.RangeFuncBound
import Derived.RangeFuncCalls
import Derived.RangeFuncLeaves
import Derived.RangeFuncBox
import Derived.RangeFuncFrom
import Derived.Shelf.Abstract
import Derived.Shelf.RegionOpen
import Derived.OwnWalkIn
import Derived.TacticsInMore
import Derived.LoopNIn
import Derived.LoopIn
import Derived.Deep.RegionHeld3
import Derived.RegionTactic
import Derived.ChangeAlike
namespace Go.Proofs.YtbefkngeffpokaaDoor
set_option linter.unusedVariables false
set_option linter.unusedSimpArgs false
open Go.RowKit


/-- What both sides make of a system, the matrix well-formed or not. -/
theorem solve_pair (C : Int) (K : Nat) (o p : Option Addr) (cap n cp : Nat) (f : Nat → Int) (hn : n ≤ 1000) (w : World) (hM : Mst w C o K cap) (hL : Lz w p n f) :
    (∃ v : Int, v ≠ 0 ∧ ∀ W, Below w.heap.size w W → (Calls Tryd.prog 32 #[mv C o K cap, .slice p n cp] W fun e w' => e = .returned (.tuple #[.slice none 0 0, .slice none 0 0, .bool false, .int .i64 v]) ∧ Below W.heap.size W w') ∧ (Calls Tryd.prog 33 #[mv C o K cap, .slice p n cp] W fun e w' => e = .returned (.tuple #[.slice none 0 0, .bool false, .int .i64 v]) ∧ Below W.heap.size W w')) ∨
    (∃ (m : Nat) (g : Nat → Int), m ≤ 1000000 ∧ ∀ W, Below w.heap.size w W → Tb W → (Calls Tryd.prog 32 #[mv C o K cap, .slice p n cp] W fun e w' => ∃ xo xc, e = .returned (.tuple #[.slice xo m xc, .slice none 0 0, .bool true, .int .i64 0]) ∧ Lz w' xo m g ∧ Below W.heap.size W w') ∧ (Calls Tryd.prog 33 #[mv C o K cap, .slice p n cp] W fun e w' => ∃ xo xc, e = .returned (.tuple #[.slice xo m xc, .bool true, .int .i64 0]) ∧ Lz w' xo m g ∧ Below W.heap.size W w')) ∨
    (∀ W, Below w.heap.size w W → Tb W → (Calls Tryd.prog 32 #[mv C o K cap, .slice p n cp] W fun e w' => ∃ fo m fc, e = .returned (.tuple #[.slice none 0 0, .slice fo m fc, .bool false, .int .i64 0]) ∧ Below W.heap.size W w' ∧ ∀ V, Below w'.heap.size w' V → Calls Tryd.prog 34 #[mv C o K cap, .slice p n cp, .slice fo m fc] V fun e v' => e = .returned (.int .i64 0) ∧ Below V.heap.size V v') ∧ (Calls Tryd.prog 33 #[mv C o K cap, .slice p n cp] W fun e w' => e = .returned (.tuple #[.slice none 0 0, .bool false, .int .i64 0]) ∧ Below W.heap.size W w')) := by
  rcases hM with ⟨c, h0, h1⟩ | ⟨N, r, rfl, hN, hK, hr, hmx⟩
  · exact .inl ⟨c, h0, fun W hW => ⟨solve_bad C K o cap _ W c h0 fun V hV => (h1 V (hW.trans (hV.mono hW.size))).1, rsolve_bad C K o cap _ W c h0 fun V hV => (h1 V (hW.trans (hV.mono hW.size))).2⟩⟩
  · have k1 := fun W (hW : Below w.heap.size w W) V (hV : Below W.heap.size W V) => check_mx N K (by omega) (by omega) r o cap V (hmx.below (hW.trans (hV.mono hW.size)))
    have k2 := fun W (hW : Below w.heap.size w W) V (hV : Below W.heap.size W V) => rcheck_mx N K (by omega) (by omega) r o cap V (hmx.below (hW.trans (hV.mono hW.size)))
    by_cases hb : vcode (K : Int) n f = 0
    · obtain ⟨bb, hbb, hbn, hbf⟩ := vcode_mask hb
      have z1 := lz_cong hL hbn hbf
      subst hbn
      obtain ⟨T, σ, hcan⟩ := can_of (wide_small (b := bb) hr)
      by_cases hm : N ∈ T
      · refine .inr (.inr fun W hW hT => ⟨(solve_good N K (by omega) r hr bb hbb T σ hcan sort_ok o p cap cp W (hmx.below hW) (z1.below hW) hT).mono ?_, (rsolve_good N K (by omega) r hr bb hbb T σ hcan o p cap cp W (hmx.below hW) (z1.below hW)).mono ?_⟩)
        · rintro e w' ⟨hbe, (⟨_, y, fo, fc, h1, h2, h3, h4⟩ | ⟨h0, _⟩)⟩
          · refine ⟨fo, _, fc, h1, hbe, fun V hV => ?_⟩
            have h5 := rverify_good N K (by omega) (by omega) r bb y o p fo cap cp fc V (hmx.below ((hW.trans (hbe.mono hW.size)).trans (hV.mono (hW.trans (hbe.mono hW.size)).size))) (z1.below ((hW.trans (hbe.mono hW.size)).trans (hV.mono (hW.trans (hbe.mono hW.size)).size))) (h2.below hV)
            rw [vfy_rf h3] at h5
            exact h5
          · exact absurd hm h0
        · rintro e w' ⟨hbe, (⟨_, h1⟩ | ⟨h0, _⟩)⟩
          · exact ⟨h1, hbe⟩
          · exact absurd hm h0
      · refine .inr (.inl ⟨(sol N T σ).length, lz (sol N T σ), ?_, fun W hW hT => ⟨(solve_good N K (by omega) r hr bb hbb T σ hcan sort_ok o p cap cp W (hmx.below hW) (z1.below hW) hT).mono ?_, (rsolve_good N K (by omega) r hr bb hbb T σ hcan o p cap cp W (hmx.below hW) (z1.below hW)).mono ?_⟩⟩)
        · have h1 := List.length_filter_le (fun c => (σ c).testBit N) T
          have h2 := hcan.len_leC
          unfold sol
          omega
        · rintro e w' ⟨hbe, (⟨h0, _⟩ | ⟨_, xo, xc, h1, h2⟩)⟩
          · exact absurd h0 hm
          · exact ⟨xo, xc, h1, h2, hbe⟩
        · rintro e w' ⟨hbe, (⟨h0, _⟩ | ⟨_, xo, xc, h1, h2⟩)⟩
          · exact absurd h0 hm
          · exact ⟨xo, xc, h1, h2, hbe⟩
    · exact .inl ⟨_, hb, fun W hW => ⟨solve_bad2 (N : Int) K (by omega) o cap n (by omega) f p cp W (hL.below hW) _ rfl hb (k1 W hW), rsolve_bad2 (N : Int) K (by omega) o cap n (by omega) f p cp W (hL.below hW) _ rfl hb (k2 W hW)⟩⟩

set_option maxRecDepth 100000 in
set_option maxHeartbeats 16000000 in
theorem solves_ok (C : Int) (o : Option Addr) (K cap : Nat) (oc : Nat → Option Addr) (nc cc : Nat → Nat) (xc : Nat → Nat → Int) (n cp : Nat) (f : Nat → Int) (p : Option Addr) (w : World) (hL : Lv w o K oc nc cc xc) (hz : Lz w p n f) (hT : Tb1 w) :
    Calls Tryd.prog 6 #[mv C o K cap, .slice p n cp] w fun e w' => e = .returned (.bool true) ∧ Below w.heap.size w w' := by
  have hb2 : Below w.heap.size w ((w.alloc (.cells #[.int .i64 C, .slice o K cap] 24)).alloc (.cells #[.int .i64 C, .slice o K cap] 24)) := ((Below.refl _ _).alloc (Nat.le_refl _) _).alloc (by simp) _
  have HFw := Lib.hid (few_allq 1 (by omega) (w.heap.size + 1) (fun _ => C) (fun _ => o) (fun _ => K) (fun _ => cap) _ (by have h := mats_one (w.alloc (.cells #[.int .i64 C, .slice o K cap] 24)) C o K cap; rwa [World.size_alloc] at h) (fun _ => FewQ C K nc) (fun c hc W hW => few_q C K o cap oc nc cc xc W ((hL.below hb2).below hW)))
  have HB0 := Lib.hid hb2
  have HBx := Lib.hid ((mbox w C o K cap).alloc (.cells #[.int .i64 C, .slice o K cap] 24))
  have HT := Lib.hid hT
  have HSp := Lib.hid (fun (hq : FewQ C K nc) (hn : n ≤ 1000) W (hW : Below w.heap.size w W) => solve_pair C K o p cap n cp f hn W ((mst_of (cap := cap) hq hL).below hW) (hz.below hW))
  unfold mv at HSp ⊢
  clear hL hT hb2 hz
  go_enter Tryd.func6, Tryd.ntmps6
  go_wp2_with fail
  refine HFw.out.mono ?_
  rintro e W1 ⟨⟨r0, rfl, hr⟩, hb1⟩
  have HB := Lib.hid (HB0.out.trans (Joins.below_le hb1 HB0.out.size))
  have XM := Lib.hid (HBx.out.below hb1 HBx.out.lt)
  have HR := Lib.hid hr
  have HT := Lib.hid (HT.out.here HB.out XM.out.lt)
  clear hb1 hr HBx HFw HB0
  cases r0 with
  | false =>
    have HA := Lib.hid (awake_ok W1 HT.out)
    go_wp2_with fail
    refine HA.out.mono ?_
    rintro e w' ⟨rfl, hb⟩
    have HE := Lib.hid (HB.out.trans (hb.mono HB.out.size))
    clear hb
    go_wp2_with fail
    go_ret
    exact ⟨rfl, HE.out⟩
  | true =>
    by_cases h40 : 40 < n
    · have k1 : (40 : Int) < (n : Int) := by omega
      have k2 : decide (40 < n) = true := decide_eq_true h40
      have HA := Lib.hid (awake_ok W1 HT.out)
      go_wp2_with fail
      refine HA.out.mono ?_
      rintro e w' ⟨rfl, hb⟩
      have HE := Lib.hid (HB.out.trans (hb.mono HB.out.size))
      clear hb
      go_wp2_with fail
      go_ret
      exact ⟨rfl, HE.out⟩
    · have k1 : ¬ (40 : Int) < (n : Int) := by omega
      have k2 : decide (40 < n) = false := decide_eq_false h40
      rcases HSp.out (HR.out rfl 0 (by omega)) (by omega) W1 HB.out with ⟨v, h0, h1⟩ | ⟨m, g, hm, h1⟩ | h1
      · have g1 : (v != 0) = true := by rw [bne_iff_ne]; exact h0
        have HU := Lib.hid (Below.refl W1.heap.size W1)
        have HC := Lib.hid h1
        have HEq := Lib.hid (fun V => equal_any 0 0 (by omega) (fun _ => 0) (fun _ => 0) none none 0 0 V Lz.nil Lz.nil)
        clear h0 h1 HSp HR
        have XM0 := XM.out.cell 0
        have XM1 := XM.out.cell 1
        have XM2 := fun ob => (XM.out.alloc ob).cell 0
        have XM3 := fun ob => (XM.out.alloc ob).cell 1
        go_wp2_with fail
        have hal : Below W1.heap.size W1 W1 := (Below.refl _ _)
        refine ((HC.out _ HU.out).1).mono ?_
        rintro e W2 ⟨rfl, hb⟩
        have hbb : Below W1.heap.size W1 W2 := hal.trans (hb.mono hal.size)
        have HB := Lib.hid (HB.out.trans (Joins.below_le hbb HB.out.size))
        have XM := Lib.hid (XM.out.below hbb XM.out.lt)
        have HT := Lib.hid (HT.out.here hbb)
        have HU := Lib.hid (HU.out.trans (Joins.below_le hbb HU.out.size))
        clear XM0 XM1 XM2 XM3
        clear hal hbb hb
        have XM0 := XM.out.cell 0
        have XM1 := XM.out.cell 1
        have XM2 := fun ob => (XM.out.alloc ob).cell 0
        have XM3 := fun ob => (XM.out.alloc ob).cell 1
        go_wp2_with fail
        have hal : Below W2.heap.size W2 W2 := (Below.refl _ _)
        refine ((HC.out _ HU.out).2).mono ?_
        rintro e W3 ⟨rfl, hb⟩
        have hbb : Below W2.heap.size W2 W3 := hal.trans (hb.mono hal.size)
        have HB := Lib.hid (HB.out.trans (Joins.below_le hbb HB.out.size))
        have XM := Lib.hid (XM.out.below hbb XM.out.lt)
        have HT := Lib.hid (HT.out.here hbb)
        have HU := Lib.hid (HU.out.trans (Joins.below_le hbb HU.out.size))
        clear XM0 XM1 XM2 XM3
        clear hal hbb hb
        have XM0 := XM.out.cell 0
        have XM1 := XM.out.cell 1
        have XM2 := fun ob => (XM.out.alloc ob).cell 0
        have XM3 := fun ob => (XM.out.alloc ob).cell 1
        go_wp2_with fail
        have hal : Below W3.heap.size W3 W3 := (Below.refl _ _)
        refine (HEq.out _).mono ?_
        rintro e W4 ⟨rfl, hb⟩
        have hbb : Below W3.heap.size W3 W4 := hal.trans (hb.mono hal.size)
        have HB := Lib.hid (HB.out.trans (Joins.below_le hbb HB.out.size))
        have XM := Lib.hid (XM.out.below hbb XM.out.lt)
        have HT := Lib.hid (HT.out.here hbb)
        have HU := Lib.hid (HU.out.trans (Joins.below_le hbb HU.out.size))
        clear XM0 XM1 XM2 XM3
        clear hal hbb hb
        rw [eqb_self (fun i hi => rfl)]
        have HA := Lib.hid (awake_ok W4 HT.out)
        go_wp2_with fail
        refine HA.out.mono ?_
        rintro e w' ⟨rfl, hb⟩
        have HE := Lib.hid (HB.out.trans (hb.mono HB.out.size))
        clear hb
        go_wp2_with fail
        go_ret
        exact ⟨rfl, HE.out⟩
      · have HU := Lib.hid (Below.refl W1.heap.size W1)
        have HC := Lib.hid h1
        have HEq := Lib.hid (fun (a b : Option Addr) (ca cb : Nat) V (h : Lz V a m g) (h' : Lz V b m g) => equal_any m m hm g g a b ca cb V h h')
        clear h1 HSp HR
        have XM0 := XM.out.cell 0
        have XM1 := XM.out.cell 1
        have XM2 := fun ob => (XM.out.alloc ob).cell 0
        have XM3 := fun ob => (XM.out.alloc ob).cell 1
        go_wp2_with fail
        have hal : Below W1.heap.size W1 W1 := (Below.refl _ _)
        refine ((HC.out _ HU.out HT.out).1).mono ?_
        rintro e W2 ⟨xo, xk, rfl, hz, hb⟩
        have hbb : Below W1.heap.size W1 W2 := hal.trans (hb.mono hal.size)
        have Z1 := Lib.hid (hz)
        have HB := Lib.hid (HB.out.trans (Joins.below_le hbb HB.out.size))
        have XM := Lib.hid (XM.out.below hbb XM.out.lt)
        have HT := Lib.hid (HT.out.here hbb)
        have HU := Lib.hid (HU.out.trans (Joins.below_le hbb HU.out.size))
        clear XM0 XM1 XM2 XM3
        clear hal hbb hb hz
        have XM0 := XM.out.cell 0
        have XM1 := XM.out.cell 1
        have XM2 := fun ob => (XM.out.alloc ob).cell 0
        have XM3 := fun ob => (XM.out.alloc ob).cell 1
        go_wp2_with fail
        have hal : Below W2.heap.size W2 W2 := (Below.refl _ _)
        refine ((HC.out _ HU.out HT.out).2).mono ?_
        rintro e W3 ⟨yo, yk, rfl, hz, hb⟩
        have hbb : Below W2.heap.size W2 W3 := hal.trans (hb.mono hal.size)
        have Z2 := Lib.hid (hz)
        have HB := Lib.hid (HB.out.trans (Joins.below_le hbb HB.out.size))
        have XM := Lib.hid (XM.out.below hbb XM.out.lt)
        have HT := Lib.hid (HT.out.here hbb)
        have HU := Lib.hid (HU.out.trans (Joins.below_le hbb HU.out.size))
        have Z1 := Lib.hid (Z1.out.below hbb)
        clear XM0 XM1 XM2 XM3
        clear hal hbb hb hz
        have XM0 := XM.out.cell 0
        have XM1 := XM.out.cell 1
        have XM2 := fun ob => (XM.out.alloc ob).cell 0
        have XM3 := fun ob => (XM.out.alloc ob).cell 1
        go_wp2_with fail
        have hal : Below W3.heap.size W3 W3 := (Below.refl _ _)
        refine (HEq.out xo yo xk yk _ Z1.out Z2.out).mono ?_
        rintro e W4 ⟨rfl, hb⟩
        have hbb : Below W3.heap.size W3 W4 := hal.trans (hb.mono hal.size)
        have HB := Lib.hid (HB.out.trans (Joins.below_le hbb HB.out.size))
        have XM := Lib.hid (XM.out.below hbb XM.out.lt)
        have HT := Lib.hid (HT.out.here hbb)
        have HU := Lib.hid (HU.out.trans (Joins.below_le hbb HU.out.size))
        have Z1 := Lib.hid (Z1.out.below hbb)
        have Z2 := Lib.hid (Z2.out.below hbb)
        clear XM0 XM1 XM2 XM3
        clear hal hbb hb
        rw [eqb_self (fun i hi => rfl)]
        have HA := Lib.hid (awake_ok W4 HT.out)
        go_wp2_with fail
        refine HA.out.mono ?_
        rintro e w' ⟨rfl, hb⟩
        have HE := Lib.hid (HB.out.trans (hb.mono HB.out.size))
        clear hb
        go_wp2_with fail
        go_ret
        exact ⟨rfl, HE.out⟩
      · have HU := Lib.hid (Below.refl W1.heap.size W1)
        have HC := Lib.hid h1
        have HEq := Lib.hid (fun V => equal_any 0 0 (by omega) (fun _ => 0) (fun _ => 0) none none 0 0 V Lz.nil Lz.nil)
        clear h1 HSp HR
        have XM0 := XM.out.cell 0
        have XM1 := XM.out.cell 1
        have XM2 := fun ob => (XM.out.alloc ob).cell 0
        have XM3 := fun ob => (XM.out.alloc ob).cell 1
        go_wp2_with fail
        have hal : Below W1.heap.size W1 W1 := (Below.refl _ _)
        refine ((HC.out _ HU.out HT.out).1).mono ?_
        rintro e W2 ⟨fo, m, fc, rfl, hb, hv⟩
        have hbb : Below W1.heap.size W1 W2 := hal.trans (hb.mono hal.size)
        have HVf := Lib.hid (hv)
        have HU2 := Lib.hid (Below.refl W2.heap.size W2)
        have HB := Lib.hid (HB.out.trans (Joins.below_le hbb HB.out.size))
        have XM := Lib.hid (XM.out.below hbb XM.out.lt)
        have HT := Lib.hid (HT.out.here hbb)
        have HU := Lib.hid (HU.out.trans (Joins.below_le hbb HU.out.size))
        clear XM0 XM1 XM2 XM3
        clear hal hbb hb hv
        have XM0 := XM.out.cell 0
        have XM1 := XM.out.cell 1
        have XM2 := fun ob => (XM.out.alloc ob).cell 0
        have XM3 := fun ob => (XM.out.alloc ob).cell 1
        go_wp2_with fail
        have hal : Below W2.heap.size W2 W2 := (Below.refl _ _)
        refine ((HC.out _ HU.out HT.out).2).mono ?_
        rintro e W3 ⟨rfl, hb⟩
        have hbb : Below W2.heap.size W2 W3 := hal.trans (hb.mono hal.size)
        have HB := Lib.hid (HB.out.trans (Joins.below_le hbb HB.out.size))
        have XM := Lib.hid (XM.out.below hbb XM.out.lt)
        have HT := Lib.hid (HT.out.here hbb)
        have HU := Lib.hid (HU.out.trans (Joins.below_le hbb HU.out.size))
        have HU2 := Lib.hid (HU2.out.trans (Joins.below_le hbb HU2.out.size))
        clear XM0 XM1 XM2 XM3
        clear hal hbb hb
        have XM0 := XM.out.cell 0
        have XM1 := XM.out.cell 1
        have XM2 := fun ob => (XM.out.alloc ob).cell 0
        have XM3 := fun ob => (XM.out.alloc ob).cell 1
        go_wp2_with fail
        have hal : Below W3.heap.size W3 W3 := (Below.refl _ _)
        refine (HEq.out _).mono ?_
        rintro e W4 ⟨rfl, hb⟩
        have hbb : Below W3.heap.size W3 W4 := hal.trans (hb.mono hal.size)
        have HB := Lib.hid (HB.out.trans (Joins.below_le hbb HB.out.size))
        have XM := Lib.hid (XM.out.below hbb XM.out.lt)
        have HT := Lib.hid (HT.out.here hbb)
        have HU := Lib.hid (HU.out.trans (Joins.below_le hbb HU.out.size))
        have HU2 := Lib.hid (HU2.out.trans (Joins.below_le hbb HU2.out.size))
        clear XM0 XM1 XM2 XM3
        clear hal hbb hb
        rw [eqb_self (fun i hi => rfl)]
        have XM0 := XM.out.cell 0
        have XM1 := XM.out.cell 1
        have XM2 := fun ob => (XM.out.alloc ob).cell 0
        have XM3 := fun ob => (XM.out.alloc ob).cell 1
        go_wp2_with fail
        have hal : Below W4.heap.size W4 W4 := (Below.refl _ _)
        refine (HVf.out _ HU2.out).mono ?_
        rintro e W5 ⟨rfl, hb⟩
        have hbb : Below W4.heap.size W4 W5 := hal.trans (hb.mono hal.size)
        have HB := Lib.hid (HB.out.trans (Joins.below_le hbb HB.out.size))
        have XM := Lib.hid (XM.out.below hbb XM.out.lt)
        have HT := Lib.hid (HT.out.here hbb)
        have HU := Lib.hid (HU.out.trans (Joins.below_le hbb HU.out.size))
        have HU2 := Lib.hid (HU2.out.trans (Joins.below_le hbb HU2.out.size))
        clear XM0 XM1 XM2 XM3
        clear hal hbb hb
        have HA := Lib.hid (awake_ok W5 HT.out)
        go_wp2_with fail
        refine HA.out.mono ?_
        rintro e w' ⟨rfl, hb⟩
        have HE := Lib.hid (HB.out.trans (hb.mono HB.out.size))
        clear hb
        go_wp2_with fail
        go_ret
        exact ⟨rfl, HE.out⟩

end Go.Proofs.YtbefkngeffpokaaDoor
