/- MatrixVerifies, whatever the matrix and the vectors. -/
import Derived.Test.YtbefkngeffpokaaDoorMyS
import Derived.Test.YtbefkngeffpokaaDoorMyT
import Derived.WalkKit
import Derived.WalkSpells
import Derived.WalkLawsBesides
import Derived.Handy
import Derived.Deep.QuietTactic
import Derived.BigQuiet
import Derived.Outline
import Derived.Laws.BitsAllLaws
import Derived.IntWalk
import Derived.Lib.SmallJoins
import Derived.Lib.Hide
import Derived.Deep.DeepCutAuto
import Derived.LoopTactic
import Derived.Deep.RegionWith
import Derived.Laws.CopyOwn
import Derived.Maps.OwnOps
import Derived.Maps.OwnSet
import Derived.Laws.OwnMore
import Derived.Maps.AppendAt
import Derived.RangeFuncNested
import Derived.RangeFuncBound
import Derived.RangeFuncCalls
import Derived.RangeFuncLeaves
import Derived.RangeFuncBox
import Derived.RangeFuncFrom
import Derived.Shelf.Abstract
import Derived.Shelf.RegionOpen
import Derived.OwnWalkIn
import Derived.TacticsInMore
import Derived.LoopNIn
import Derived.LoopIn
import Derived.Deep.RegionHeld3
import Derived.RegionTactic
import Derived.ChangeAlike
namespace Go.Proofs.YtbefkngeffpokaaDoor
set_option linter.unusedVariables false
set_option linter.unusedSimpArgs false
open Go.RowKit


theorem mats1 (U : World) (C : Int) (o : Option Addr) (K cap : Nat) : Mats (U.alloc (.cells #[.int .i64 C, .slice o K cap] 24)) U.heap.size 1 (fun _ => C) (fun _ => o) (fun _ => K) (fun _ => cap) := by
  have b := mbox U C o K cap
  refine ⟨b.lt, fun c hc => ?_, fun c hc => ?_⟩
  · obtain rfl : c = 0 := by omega
    exact b.cell 0
  · obtain rfl : c = 0 := by omega
    exact b.cell 1
set_option maxRecDepth 100000 in
set_option maxHeartbeats 4000000 in
theorem verifies_ok (C : Int) (o : Option Addr) (K cap : Nat) (oc : Nat → Option Addr) (nc cc : Nat → Nat) (xc : Nat → Nat → Int) (n m cp cq : Nat) (f g : Nat → Int) (p q : Option Addr) (w : World) (hL : Lv w o K oc nc cc xc) (hz : Lz w p n f) (hz' : Lz w q m g) (hT : Tb1 w) :
    Calls Tryd.prog 7 #[mv C o K cap, .slice p n cp, .slice q m cq] w fun e w' => e = .returned (.bool true) ∧ Below w.heap.size w w' := by
  have hb2 : Below w.heap.size w ((w.alloc (.cells #[.int .i64 C, .slice o K cap] 24)).alloc (.cells #[.int .i64 C, .slice o K cap] 24)) := ((Below.refl _ _).alloc (Nat.le_refl _) _).alloc (by simp) _
  have HFw := Lib.hid (few_allq 1 (by omega) (w.heap.size + 1) (fun _ => C) (fun _ => o) (fun _ => K) (fun _ => cap) _ (by have h := mats1 (w.alloc (.cells #[.int .i64 C, .slice o K cap] 24)) C o K cap; rwa [World.size_alloc] at h) (fun _ => FewQ C K nc) (fun c hc W hW => few_q C K o cap oc nc cc xc W ((hL.below hb2).below hW)))
  have HB := Lib.hid hb2
  have HBx := Lib.hid ((mbox w C o K cap).alloc (.cells #[.int .i64 C, .slice o K cap] 24))
  have HT := Lib.hid hT
  have HPr := Lib.hid (fun (hq : FewQ C K nc) (hn : n ≤ 1000) (hm : m ≤ 1000) W (hW : Below w.heap.size w W) (hTW : Tb W) => verify_pair C K o p q cap n m cp cq f g hn hm W ((mst_of hq hL).below hW) (hz.below hW) (hz'.below hW) hTW)
  have HAw := Lib.hid awake_ok
  unfold mv at HPr ⊢
  clear hL hz hz' hT hb2
  go_enter Tryd.func7, Tryd.ntmps7
  go_wp2_with fail
  refine HFw.out.mono ?_
  rintro e W1 ⟨⟨r, rfl, hr⟩, hb1⟩
  have HB1 := Lib.hid (HB.out.trans (Joins.below_le hb1 HB.out.size))
  have HX1 := Lib.hid (HBx.out.below hb1 HBx.out.lt)
  have HR := Lib.hid hr
  have HT1 := Lib.hid (HT.out.here HB1.out HX1.out.lt)
  have q0 := HX1.out.cell 0
  have q1 := HX1.out.cell 1
  clear hb1 hr
  by_cases hok : r = true ∧ n ≤ 40 ∧ m ≤ 40
  · obtain ⟨rfl, hn, hm⟩ := hok
    have k1 : ¬ (40 : Int) < (n : Int) := by omega
    have k2 : ¬ (40 : Int) < (m : Int) := by omega
    have k3 : decide (40 < n) = false := decide_eq_false (by omega)
    have k4 : decide (40 < m) = false := decide_eq_false (by omega)
    obtain ⟨v, hv⟩ := HPr.out (HR.out rfl 0 (by omega)) (by omega) (by omega) W1 HB1.out HT1.out
    have HV := Lib.hid hv
    have HZ : Hid (∀ V, Below W1.heap.size W1 V → Below W1.heap.size W1 V ∧ V.cell? ⟨w.heap.size, 0, none⟩ = some (.int .i64 C) ∧ V.cell? ⟨w.heap.size, 1, none⟩ = some (.slice o K cap)) := Lib.hid fun V hV => ⟨hV, (HX1.out.below hV HX1.out.lt).cell 0, (HX1.out.below hV HX1.out.lt).cell 1⟩
    have HW := Lib.hid (fun V (hV : Below W1.heap.size W1 V) => HB1.out.trans (hV.mono HB1.out.size))
    have HA := Lib.hid (fun V (hV : Below W1.heap.size W1 V) => awake_ok V (HT1.out.here hV))
    clear hv
    go_wp2_with fail
    go_region_held3 (fun V => Below W1.heap.size W1 V ∧ V.cell? ⟨w.heap.size, 0, none⟩ = some (.int .i64 C) ∧ V.cell? ⟨w.heap.size, 1, none⟩ = some (.slice o K cap)) (first | exact HZ.out _ (below_dn 1 (Below.refl _ _)) | exact HZ.out _ (Below.refl _ _) | exact HZ.out _ (by assumption)) (first
      | (go_at_call 13; refine (HA.out _ (by first | assumption | exact And.left (by assumption) | exact Below.refl _ _ | exact below_dn 1 (Below.refl _ _))).mono ?_; rintro e y ⟨rfl, hz1⟩; have kk1 : Below W1.heap.size W1 y := Below.trans (by first | assumption | exact And.left (by assumption) | exact Below.refl _ _ | exact below_dn 1 (Below.refl _ _)) (Joins.below_le hz1 (Below.size (by first | assumption | exact And.left (by assumption) | exact Below.refl _ _ | exact below_dn 1 (Below.refl _ _)))))
      | (go_at_call 35; refine (HV.out _ (by first | assumption | exact And.left (by assumption) | exact Below.refl _ _ | exact below_dn 1 (Below.refl _ _))).1.mono ?_; rintro e y ⟨rfl, hz2⟩; have kk2 : Below W1.heap.size W1 y := Below.trans (by first | assumption | exact And.left (by assumption) | exact Below.refl _ _ | exact below_dn 1 (Below.refl _ _)) (Joins.below_le hz2 (Below.size (by first | assumption | exact And.left (by assumption) | exact Below.refl _ _ | exact below_dn 1 (Below.refl _ _)))))
      | (go_at_call 34; refine (HV.out _ (by first | assumption | exact And.left (by assumption) | exact Below.refl _ _ | exact below_dn 1 (Below.refl _ _))).2.mono ?_; rintro e y ⟨rfl, hz3⟩; have kk3 : Below W1.heap.size W1 y := Below.trans (by first | assumption | exact And.left (by assumption) | exact Below.refl _ _ | exact below_dn 1 (Below.refl _ _)) (Joins.below_le hz3 (Below.size (by first | assumption | exact And.left (by assumption) | exact Below.refl _ _ | exact below_dn 1 (Below.refl _ _))))))
    all_goals
      go_wp2_with fail
      go_ret
      exact ⟨rfl, HW.out _ (by first | assumption | exact below_dn 1 (by assumption))⟩
  · have HA := Lib.hid (awake_ok W1 HT1.out)
    have fin : ∀ e w', (e = Ending.returned (.bool true) ∧ Below W1.heap.size W1 w') → (e = .returned (.bool true) ∧ Below w.heap.size w w') := fun e w' ⟨h1, h2⟩ => ⟨h1, HB1.out.trans (h2.mono HB1.out.size)⟩
    have HF := Lib.hid fin
    clear fin
    cases r with
    | false =>
      clear hok
      go_wp2_with fail
      refine HA.out.mono ?_
      rintro e w' ⟨rfl, hb⟩
      have HE := Lib.hid (HB1.out.trans (hb.mono HB1.out.size))
      clear hb
      go_wp2_with fail
      go_ret
      exact ⟨rfl, HE.out⟩
    | true =>
      by_cases hn : 40 < n
      · have k1 : (40 : Int) < (n : Int) := by omega
        have k3 : decide (40 < n) = true := decide_eq_true hn
        clear hok
        go_wp2_with fail
        refine HA.out.mono ?_
        rintro e w' ⟨rfl, hb⟩
        have HE := Lib.hid (HB1.out.trans (hb.mono HB1.out.size))
        clear hb
        go_wp2_with fail
        go_ret
        exact ⟨rfl, HE.out⟩
      · have k1 : ¬ (40 : Int) < (n : Int) := by omega
        have k3 : decide (40 < n) = false := decide_eq_false hn
        have hm : 40 < m := by
          rcases Nat.lt_or_ge 40 m with h | h
          · exact h
          · exact absurd ⟨rfl, by omega, h⟩ hok
        have k2 : (40 : Int) < (m : Int) := by omega
        have k4 : decide (40 < m) = true := decide_eq_true hm
        clear hok
        go_wp2_with fail
        refine HA.out.mono ?_
        rintro e w' ⟨rfl, hb⟩
        have HE := Lib.hid (HB1.out.trans (hb.mono HB1.out.size))
        clear hb
        go_wp2_with fail
        go_ret
        exact ⟨rfl, HE.out⟩

end Go.Proofs.YtbefkngeffpokaaDoor
