/- TopRanksBounded, whatever the matrices. -/
import Derived.Test.YtdobhdhgmbmhfaaDoorTpA
import Derived.Test.YtdobhdhgmbmhfaaDoorTpB
import Derived.WalkKit
import Derived.WalkSpells
import Derived.WalkLawsBesides
import Derived.Handy
import Derived.Deep.QuietTactic
import Derived.BigQuiet
import Derived.Outline
import Derived.Laws.BitsAllLaws
import Derived.IntWalk
import Derived.Lib.SmallJoins
import Derived.Lib.Hide
import Derived.Deep.DeepCutAuto
import Derived.LoopTactic
import Derived.Deep.RegionWith
import Derived.Laws.CopyOwn
import Derived.Maps.OwnOps
import Derived.Maps.OwnSet
import Derived.Laws.OwnMore
import Derived.Maps.AppendAt
import Derived.RangeFuncNested
import Derived.RangeFuncBound
import Derived.RangeFuncCalls
import Derived.RangeFuncLeaves
import Derived.RangeFuncBox
import Derived.RangeFuncFrom
import Derived.Shelf.Abstract
import Derived.Shelf.RegionOpen
import Derived.OwnWalkIn
import Derived.TacticsInMore
import Derived.LoopNIn
import Derived.LoopIn
import Derived.Deep.RegionHeld3
import Derived.RegionTactic
import Derived.ChangeAlike
namespace Go.Proofs.YtdobhdhgmbmhfaaDoor
set_option linter.unusedVariables false
set_option linter.unusedSimpArgs false
open Go.RowKit


def ROut (n : Int) (w : World) (e : Ending) (w' : World) : Prop := e = .returned (.tuple #[.int .i64 n, .int .i64 0]) ∧ Below w.heap.size w w'
theorem rank_facts (N P K : Nat) (hN : N ≤ 14) (hP : P ≤ 14) (hK : K ≤ 14) (a b : Nat → Nat) (ha : ∀ i, i < K → a i < 2 ^ N) (hb : ∀ j, j < N → b j < 2 ^ P) : ∃ (m n k : Nat), k ≤ m ∧ k ≤ n ∧ m + n ≤ k + N ∧ m ≤ 14 ∧ n ≤ 14 ∧
    (∀ o cap w, Mx w o K N a → Tb w → Calls Tryd.prog 17 #[.agg #[.int .i64 (N : Int), .slice o K cap]] w (ROut (m : Int) w)) ∧
    (∀ o cap w, Mx w o N P b → Tb w → Calls Tryd.prog 17 #[.agg #[.int .i64 (P : Int), .slice o N cap]] w (ROut (n : Int) w)) ∧
    (∀ o cap w, Mx w o K P (mulr N a b) → Tb w → Calls Tryd.prog 17 #[.agg #[.int .i64 (P : Int), .slice o K cap]] w (ROut (k : Int) w)) := by
  obtain ⟨S, σ, h⟩ := can_of ha
  obtain ⟨T, τ, k⟩ := can_of hb
  have hab : ∀ i, i < K → mulr N a b i < 2 ^ P := fun i _ => mulr_lt hb
  obtain ⟨U, υ, u⟩ := can_of hab
  obtain ⟨e1, e2, e3⟩ := rank_mul ha hb h k u
  have l1 := h.len_leC
  have l2 := k.len_leC
  exact ⟨S.length, T.length, U.length, e1, e2, e3, by omega, by omega, fun o cap w hM hT => rank_good N K (by omega) (by omega) a ha S σ h sort_ok o cap w hM hT, fun o cap w hM hT => rank_good P N (by omega) (by omega) b hb T τ k sort_ok o cap w hM hT, fun o cap w hM hT => rank_good P K (by omega) (by omega) _ hab U υ u sort_ok o cap w hM hT⟩
set_option maxRecDepth 100000 in
set_option maxHeartbeats 8000000 in
theorem ranksB_ok (C D : Int) (o p : Option Addr) (K M cap cap' : Nat) (oc od : Nat → Option Addr) (nc cc nd cd : Nat → Nat) (xc xd : Nat → Nat → Int) (w : World) (hL : Lv w o K oc nc cc xc) (hL' : Lv w p M od nd cd xd) (hT : Tb1 w) :
    Calls Tryd.prog 5 #[mv C o K cap, mv D p M cap'] w fun e w' => e = .returned (.bool true) ∧ Below w.heap.size w w' := by
  have hb2 : Below w.heap.size w ((w.alloc (.cells #[.int .i64 C, .slice o K cap] 24)).alloc (.cells #[.int .i64 D, .slice p M cap'] 24)) := ((Below.refl _ _).alloc (Nat.le_refl _) _).alloc (by simp) _
  have HB := Lib.hid hb2
  have XA := Lib.hid ((mbox w C o K cap).alloc (.cells #[.int .i64 D, .slice p M cap'] 24))
  have XB := Lib.hid (mbox (w.alloc (.cells #[.int .i64 C, .slice o K cap] 24)) D p M cap')
  rw [World.size_alloc] at XB
  have HT := Lib.hid (hT.here hb2 (by first | (simp; done) | (simp; omega)))
  have LA := Lib.hid (hL.below hb2)
  have LB := Lib.hid (hL'.below hb2)
  unfold mv
  clear hL hL' hT hb2
  go_enter Tryd.func5, Tryd.ntmps5
  obtain ⟨W0, hW0⟩ : ∃ W, (w.alloc (.cells #[.int .i64 C, .slice o K cap] 24)).alloc (.cells #[.int .i64 D, .slice p M cap'] 24) = W := ⟨_, rfl⟩
  go_wp2_with fail
  rw [hW0] at HB XA XB HT LA LB
  clear hW0
  refine (awake3_ok W0 HT.out).mono ?_
  rintro e W1 ⟨rfl, hb⟩
  have hbb := hb
  have HB := Lib.hid (HB.out.trans (Joins.below_le hbb HB.out.size))
  have XA := Lib.hid (XA.out.below hbb XA.out.lt)
  have XB := Lib.hid (XB.out.below hbb XB.out.lt)
  have HT := Lib.hid (HT.out.here hbb)
  have LA := Lib.hid (LA.out.below hbb)
  have LB := Lib.hid (LB.out.below hbb)
  clear hbb hb
  have XA0 := XA.out.cell 0
  have XA1 := XA.out.cell 1
  have XA2 := fun ob => (XA.out.alloc ob).cell 0
  have XA3 := fun ob => (XA.out.alloc ob).cell 1
  have XB0 := XB.out.cell 0
  have XB1 := XB.out.cell 1
  have XB2 := fun ob => (XB.out.alloc ob).cell 0
  have XB3 := fun ob => (XB.out.alloc ob).cell 1
  go_wp2_with fail
  refine (play_two C D o p K M cap cap' oc od nc cc nd cd xc xd 24 W1 LA.out LB.out).mono ?_
  rintro e W2 ⟨⟨r0, rfl, hr⟩, hb⟩
  have hbb := hb
  have HR := Lib.hid hr
  have HU := Lib.hid (Below.refl W1.heap.size W1)
  have HB := Lib.hid (HB.out.trans (Joins.below_le hbb HB.out.size))
  have XA := Lib.hid (XA.out.below hbb XA.out.lt)
  have XB := Lib.hid (XB.out.below hbb XB.out.lt)
  have HT := Lib.hid (HT.out.here hbb)
  have LA := Lib.hid (LA.out.below hbb)
  have LB := Lib.hid (LB.out.below hbb)
  have HU := Lib.hid (HU.out.trans (Joins.below_le hbb HU.out.size))
  clear XA0 XA1 XA2 XA3 XB0 XB1 XB2 XB3
  clear hbb hb hr LA LB
  cases r0 with
  | false =>
    go_wp2_with fail
    go_ret
    exact ⟨rfl, HB.out⟩
  | true =>
    obtain ⟨⟨N, a, rfl, hN, hK, ha, hmA⟩, ⟨P, b, rfl, hP, hM, hb_, hmB⟩⟩ := HR.out rfl
    have MA := Lib.hid (hmA.below HU.out)
    have MB := Lib.hid (hmB.below HU.out)
    clear hmA hmB HR
    have XA0 := XA.out.cell 0
    have XA1 := XA.out.cell 1
    have XA2 := fun ob => (XA.out.alloc ob).cell 0
    have XA3 := fun ob => (XA.out.alloc ob).cell 1
    have XB0 := XB.out.cell 0
    have XB1 := XB.out.cell 1
    have XB2 := fun ob => (XB.out.alloc ob).cell 0
    have XB3 := fun ob => (XB.out.alloc ob).cell 1
    by_cases hNM : N = M
    · subst hNM
      obtain ⟨m, n, k, e1, e2, e3, hm14, hn14, hf1, hf2, hf3⟩ := rank_facts N P K hN hP hK a b ha hb_
      have HF1 := Lib.hid hf1
      have HF2 := Lib.hid hf2
      have HF3 := Lib.hid hf3
      have Hb := Lib.hid hb_
      have f1 : (k : Int) ≤ (m : Int) := by omega
      have f2 : (k : Int) ≤ (n : Int) := by omega
      have f3 : (m : Int) + (n : Int) - (N : Int) ≤ (k : Int) := by omega
      have f4 : (k : Int) ≤ min (m : Int) (n : Int) := by omega
      have f5 : k ≤ min m n := by omega
      have f6 : m + n ≤ k + N := by omega
      clear hf1 hf2 hf3 hb_ ha
      clear XA0 XA1 XA2 XA3 XB0 XB1 XB2 XB3
      have XA0 := XA.out.cell 0
      have XA1 := XA.out.cell 1
      have XA2 := fun ob => (XA.out.alloc ob).cell 0
      have XA3 := fun ob => (XA.out.alloc ob).cell 1
      have XB0 := XB.out.cell 0
      have XB1 := XB.out.cell 1
      have XB2 := fun ob => (XB.out.alloc ob).cell 0
      have XB3 := fun ob => (XB.out.alloc ob).cell 1
      go_wp2_with fail
      have hal : Below W2.heap.size W2 W2 := (Below.refl _ _)
      refine (mul_mx N P K (by omega) (by omega) (by omega) a b Hb.out o p cap cap' W2 HT.out MA.out MB.out).mono ?_
      rintro e W3 ⟨o3, c3, rfl, hm, hb⟩
      have hbb : Below W2.heap.size W2 W3 := hal.trans (hb.mono hal.size)
      have MC := Lib.hid (hm)
      have HB := Lib.hid (HB.out.trans (Joins.below_le hbb HB.out.size))
      have XA := Lib.hid (XA.out.below hbb XA.out.lt)
      have XB := Lib.hid (XB.out.below hbb XB.out.lt)
      have HT := Lib.hid (HT.out.here hbb)
      have MA := Lib.hid (MA.out.below hbb)
      have MB := Lib.hid (MB.out.below hbb)
      clear XA0 XA1 XA2 XA3 XB0 XB1 XB2 XB3
      clear hal hbb hb hm
      have XA0 := XA.out.cell 0
      have XA1 := XA.out.cell 1
      have XA2 := fun ob => (XA.out.alloc ob).cell 0
      have XA3 := fun ob => (XA.out.alloc ob).cell 1
      have XB0 := XB.out.cell 0
      have XB1 := XB.out.cell 1
      have XB2 := fun ob => (XB.out.alloc ob).cell 0
      have XB3 := fun ob => (XB.out.alloc ob).cell 1
      go_wp2_with fail
      have hal : Below W3.heap.size W3 (W3.alloc (.cells #[.int .i64 (P : Int), .slice o3 K c3] 24)) := ((Below.refl _ _).alloc (by first | exact Nat.le_refl _ | (simp; done) | (simp; omega)) _)
      refine (HF1.out o cap (W3.alloc (.cells #[.int .i64 (P : Int), .slice o3 K c3] 24)) (MA.out.below hal) (HT.out.here hal)).mono ?_
      rintro e W4 ⟨rfl, hb⟩
      have hbb : Below W3.heap.size W3 W4 := hal.trans (hb.mono hal.size)
      have XC := Lib.hid ((Box.new W3 #[.int .i64 (P : Int), .slice o3 K c3] 24).below hb (by simp))
      have HB := Lib.hid (HB.out.trans (Joins.below_le hbb HB.out.size))
      have XA := Lib.hid (XA.out.below hbb XA.out.lt)
      have XB := Lib.hid (XB.out.below hbb XB.out.lt)
      have HT := Lib.hid (HT.out.here hbb)
      have MA := Lib.hid (MA.out.below hbb)
      have MB := Lib.hid (MB.out.below hbb)
      have MC := Lib.hid (MC.out.below hbb)
      clear XA0 XA1 XA2 XA3 XB0 XB1 XB2 XB3
      clear hal hbb hb
      have XA0 := XA.out.cell 0
      have XA1 := XA.out.cell 1
      have XA2 := fun ob => (XA.out.alloc ob).cell 0
      have XA3 := fun ob => (XA.out.alloc ob).cell 1
      have XB0 := XB.out.cell 0
      have XB1 := XB.out.cell 1
      have XB2 := fun ob => (XB.out.alloc ob).cell 0
      have XB3 := fun ob => (XB.out.alloc ob).cell 1
      have XC0 := XC.out.cell 0
      have XC1 := XC.out.cell 1
      have XC2 := fun ob => (XC.out.alloc ob).cell 0
      have XC3 := fun ob => (XC.out.alloc ob).cell 1
      go_wp2_with fail
      have hal : Below W4.heap.size W4 W4 := (Below.refl _ _)
      refine (HF2.out p cap' W4 MB.out HT.out).mono ?_
      rintro e W5 ⟨rfl, hb⟩
      have hbb : Below W4.heap.size W4 W5 := hal.trans (hb.mono hal.size)
      have HB := Lib.hid (HB.out.trans (Joins.below_le hbb HB.out.size))
      have XA := Lib.hid (XA.out.below hbb XA.out.lt)
      have XB := Lib.hid (XB.out.below hbb XB.out.lt)
      have HT := Lib.hid (HT.out.here hbb)
      have MA := Lib.hid (MA.out.below hbb)
      have MB := Lib.hid (MB.out.below hbb)
      have MC := Lib.hid (MC.out.below hbb)
      have XC := Lib.hid (XC.out.below hbb XC.out.lt)
      clear XA0 XA1 XA2 XA3 XB0 XB1 XB2 XB3 XC0 XC1 XC2 XC3
      clear hal hbb hb
      have XA0 := XA.out.cell 0
      have XA1 := XA.out.cell 1
      have XA2 := fun ob => (XA.out.alloc ob).cell 0
      have XA3 := fun ob => (XA.out.alloc ob).cell 1
      have XB0 := XB.out.cell 0
      have XB1 := XB.out.cell 1
      have XB2 := fun ob => (XB.out.alloc ob).cell 0
      have XB3 := fun ob => (XB.out.alloc ob).cell 1
      have XC0 := XC.out.cell 0
      have XC1 := XC.out.cell 1
      have XC2 := fun ob => (XC.out.alloc ob).cell 0
      have XC3 := fun ob => (XC.out.alloc ob).cell 1
      go_wp2_with fail
      have hal : Below W5.heap.size W5 W5 := (Below.refl _ _)
      refine (HF3.out o3 c3 W5 MC.out HT.out).mono ?_
      rintro e W6 ⟨rfl, hb⟩
      have hbb : Below W5.heap.size W5 W6 := hal.trans (hb.mono hal.size)
      have HB := Lib.hid (HB.out.trans (Joins.below_le hbb HB.out.size))
      have XA := Lib.hid (XA.out.below hbb XA.out.lt)
      have XB := Lib.hid (XB.out.below hbb XB.out.lt)
      have HT := Lib.hid (HT.out.here hbb)
      have MA := Lib.hid (MA.out.below hbb)
      have MB := Lib.hid (MB.out.below hbb)
      have MC := Lib.hid (MC.out.below hbb)
      have XC := Lib.hid (XC.out.below hbb XC.out.lt)
      clear XA0 XA1 XA2 XA3 XB0 XB1 XB2 XB3 XC0 XC1 XC2 XC3
      clear hal hbb hb
      have XA0 := XA.out.cell 0
      have XA1 := XA.out.cell 1
      have XA2 := fun ob => (XA.out.alloc ob).cell 0
      have XA3 := fun ob => (XA.out.alloc ob).cell 1
      have XB0 := XB.out.cell 0
      have XB1 := XB.out.cell 1
      have XB2 := fun ob => (XB.out.alloc ob).cell 0
      have XB3 := fun ob => (XB.out.alloc ob).cell 1
      have XC0 := XC.out.cell 0
      have XC1 := XC.out.cell 1
      have XC2 := fun ob => (XC.out.alloc ob).cell 0
      have XC3 := fun ob => (XC.out.alloc ob).cell 1
      go_wp2_with fail

      go_ret
      exact ⟨rfl, HB.out⟩
    · have g1 : ((N : Int) != (M : Int)) = true := by rw [bne_iff_ne]; omega
      go_wp2_with fail
      go_ret
      exact ⟨rfl, HB.out⟩

end Go.Proofs.YtdobhdhgmbmhfaaDoor
