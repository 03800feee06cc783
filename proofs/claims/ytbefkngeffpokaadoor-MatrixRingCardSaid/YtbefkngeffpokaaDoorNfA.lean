/- MatrixRing, whatever the matrices. -/
import Derived.Test.YtbefkngeffpokaaDoorNdA
import Derived.WalkKit
import Derived.WalkSpells
import Derived.WalkLawsBesides
import Derived.Handy
import Derived.Deep.QuietTactic
import Derived.BigQuiet
import Derived.Outline
import Derived.Laws.BitsAllLaws
import Derived.IntWalk
import Derived.Lib.SmallJoins
import Derived.Lib.Hide
import Derived.Deep.DeepCutAuto
import Derived.LoopTactic
import Derived.Deep.RegionWith
import Derived.Laws.CopyOwn
import Derived.Maps.OwnOps
import Derived.Maps.OwnSet
import Derived.Laws.OwnMore
import Derived.Maps.AppendAt
import Derived.RangeFuncNested
import Derived.RangeFuncBound
import Derived.RangeFuncCalls
import Derived.RangeFuncLeaves
import Derived.RangeFuncBox
import Derived.RangeFuncFrom
import Derived.Shelf.Abstract
import Derived.Shelf.RegionOpen
import Derived.OwnWalkIn
import Derived.TacticsInMore
import Derived.LoopNIn
import Derived.LoopIn
import Derived.Deep.RegionHeld3
import Derived.RegionTactic
import Derived.ChangeAlike
namespace Go.Proofs.YtbefkngeffpokaaDoor
set_option linter.unusedVariables false
set_option linter.unusedSimpArgs false
open Go.RowKit


theorem mats_three (U : World) (C D E : Int) (o p q : Option Addr) (K M L cap cap' cap2 : Nat) (t : TypeId) : Mats (U.alloc (.cells #[.int .i64 C, .slice o K cap, .int .i64 D, .slice p M cap', .int .i64 E, .slice q L cap2] t)) U.heap.size 3 (fun c => if c = 0 then C else if c = 1 then D else E) (fun c => if c = 0 then o else if c = 1 then p else q) (fun c => if c = 0 then K else if c = 1 then M else L) (fun c => if c = 0 then cap else if c = 1 then cap' else cap2) := by
  have b := Box.new U #[.int .i64 C, .slice o K cap, .int .i64 D, .slice p M cap', .int .i64 E, .slice q L cap2] t
  refine ⟨b.lt, fun c hc => ?_, fun c hc => ?_⟩
  · match c, hc with
    | 0, _ => exact b.cell 0
    | 1, _ => exact b.cell 2
    | 2, _ => exact b.cell 4
  · match c, hc with
    | 0, _ => exact b.cell 1
    | 1, _ => exact b.cell 3
    | 2, _ => exact b.cell 5
set_option maxRecDepth 100000 in
set_option maxHeartbeats 16000000 in
theorem ring_ok (C D E : Int) (o p q : Option Addr) (K M L cap cap' cap2 : Nat) (oc od oe : Nat → Option Addr) (nc cc nd cd ne ce : Nat → Nat) (xc xd xe : Nat → Nat → Int) (w : World) (hL : Lv w o K oc nc cc xc) (hL' : Lv w p M od nd cd xd) (hL2 : Lv w q L oe ne ce xe) (hT : Tb1 w) :
    Calls Tryd.prog 8 #[mv C o K cap, mv D p M cap', mv E q L cap2] w fun e w' => e = .returned (.bool true) ∧ Below w.heap.size w w' := by
  have hb2 : Below w.heap.size w ((((w.alloc (.cells #[.int .i64 C, .slice o K cap] 24)).alloc (.cells #[.int .i64 D, .slice p M cap'] 24)).alloc (.cells #[.int .i64 E, .slice q L cap2] 24)).alloc (.cells #[.int .i64 C, .slice o K cap, .int .i64 D, .slice p M cap', .int .i64 E, .slice q L cap2] 24)) := ((((Below.refl _ _).alloc (Nat.le_refl _) _).alloc (by simp) _).alloc (by simp; omega) _).alloc (by simp; omega) _
  have HFw := Lib.hid (few_allq 3 (by omega) (w.heap.size + 1 + 1 + 1) _ _ _ _ _ (by have h := mats_three (((w.alloc (.cells #[.int .i64 C, .slice o K cap] 24)).alloc (.cells #[.int .i64 D, .slice p M cap'] 24)).alloc (.cells #[.int .i64 E, .slice q L cap2] 24)) C D E o p q K M L cap cap' cap2 24; rwa [World.size_alloc, World.size_alloc, World.size_alloc] at h) (fun c => if c = 0 then FewQ C K nc else if c = 1 then FewQ D M nd else FewQ E L ne) (fun c hc W hW => by
    match c, hc with
    | 0, _ => exact few_q C K o cap oc nc cc xc W ((hL.below hb2).below hW)
    | 1, _ => exact few_q D M p cap' od nd cd xd W ((hL'.below hb2).below hW)
    | 2, _ => exact few_q E L q cap2 oe ne ce xe W ((hL2.below hb2).below hW)))
  have HB0 := Lib.hid hb2
  have HBx := Lib.hid ((((mbox w C o K cap).alloc (.cells #[.int .i64 D, .slice p M cap'] 24)).alloc (.cells #[.int .i64 E, .slice q L cap2] 24)).alloc (.cells #[.int .i64 C, .slice o K cap, .int .i64 D, .slice p M cap', .int .i64 E, .slice q L cap2] 24))
  have HBy := Lib.hid (((mbox (w.alloc (.cells #[.int .i64 C, .slice o K cap] 24)) D p M cap').alloc (.cells #[.int .i64 E, .slice q L cap2] 24)).alloc (.cells #[.int .i64 C, .slice o K cap, .int .i64 D, .slice p M cap', .int .i64 E, .slice q L cap2] 24))
  have HBz := Lib.hid ((mbox ((w.alloc (.cells #[.int .i64 C, .slice o K cap] 24)).alloc (.cells #[.int .i64 D, .slice p M cap'] 24)) E q L cap2).alloc (.cells #[.int .i64 C, .slice o K cap, .int .i64 D, .slice p M cap', .int .i64 E, .slice q L cap2] 24))
  rw [World.size_alloc] at HBy
  rw [World.size_alloc, World.size_alloc] at HBz
  have HT := Lib.hid hT
  have HSt := Lib.hid (fun (hq : FewQ C K nc) (hq' : FewQ D M nd) W (hW : Below w.heap.size w W) => mst_two ((mst_of (cap := cap) hq hL).below hW) ((mst_of (cap := cap') hq' hL').below hW))
  have HSt2 := Lib.hid (fun (hq : FewQ E L ne) W (hW : Below w.heap.size w W) => ((mst_of (cap := cap2) hq hL2).below hW).code)
  unfold mv
  clear hL hL' hL2 hT hb2
  go_enter Tryd.func8, Tryd.ntmps8
  go_wp2_with fail
  refine HFw.out.mono ?_
  rintro e W1 ⟨⟨r0, rfl, hr⟩, hb1⟩
  have HB := Lib.hid (HB0.out.trans (Joins.below_le hb1 HB0.out.size))
  have XA := Lib.hid (HBx.out.below hb1 HBx.out.lt)
  have XB := Lib.hid (HBy.out.below hb1 HBy.out.lt)
  have XC := Lib.hid (HBz.out.below hb1 HBz.out.lt)
  have HR := Lib.hid hr
  have HT := Lib.hid (HT.out.here HB.out XA.out.lt)
  clear hb1 hr HBx HBy HBz HFw HB0
  cases r0 with
  | false =>
    have HA := Lib.hid (awake_ok W1 HT.out)
    go_wp2_with fail
    refine HA.out.mono ?_
    rintro e w' ⟨rfl, hb⟩
    have HE := Lib.hid (HB.out.trans (hb.mono HB.out.size))
    clear hb
    go_wp2_with fail
    go_ret
    exact ⟨rfl, HE.out⟩
  | true =>
    obtain ⟨v, hv, hg⟩ := HSt.out (HR.out rfl 0 (by omega)) (HR.out rfl 1 (by omega)) W1 HB.out
    obtain ⟨v2, hv2, hg2⟩ := HSt2.out (HR.out rfl 2 (by omega)) W1 HB.out
    have HV := Lib.hid (hv W1 (Below.refl _ _)).2
    have HV2 := Lib.hid (fun W (h : Below W1.heap.size W1 W) => (hv2 W h).2)
    have HU := Lib.hid (Below.refl W1.heap.size W1)
    have HG := Lib.hid hg
    have HG2 := Lib.hid hg2
    unfold mv at HV HV2
    clear hv hv2 hg hg2 HSt HSt2 HR
    by_cases h0 : v = 0
    · subst h0
      obtain ⟨N, P0, a, b, rfl, rfl, hN, hP, hK, hM, ha, hb_, hmA, hmB⟩ := HG.out rfl
      have Ha := Lib.hid ha
      have Hb := Lib.hid hb_
      have MA := Lib.hid hmA
      have MB := Lib.hid hmB
      clear ha hb_ hmA hmB HG
      have XA0 := XA.out.cell 0
      have XA1 := XA.out.cell 1
      have XA2 := fun ob => (XA.out.alloc ob).cell 0
      have XA3 := fun ob => (XA.out.alloc ob).cell 1
      have XB0 := XB.out.cell 0
      have XB1 := XB.out.cell 1
      have XB2 := fun ob => (XB.out.alloc ob).cell 0
      have XB3 := fun ob => (XB.out.alloc ob).cell 1
      have XC0 := XC.out.cell 0
      have XC1 := XC.out.cell 1
      have XC2 := fun ob => (XC.out.alloc ob).cell 0
      have XC3 := fun ob => (XC.out.alloc ob).cell 1
      go_wp2_with fail
      have hal : Below W1.heap.size W1 W1 := (Below.refl _ _)
      refine (HV.out).mono ?_
      rintro e W2 ⟨rfl, hb⟩
      have hbb : Below W1.heap.size W1 W2 := hal.trans (hb.mono hal.size)
      have HB := Lib.hid (HB.out.trans (Joins.below_le hbb HB.out.size))
      have XA := Lib.hid (XA.out.below hbb XA.out.lt)
      have XB := Lib.hid (XB.out.below hbb XB.out.lt)
      have XC := Lib.hid (XC.out.below hbb XC.out.lt)
      have HT := Lib.hid (HT.out.here hbb)
      have MA := Lib.hid (MA.out.below hbb)
      have MB := Lib.hid (MB.out.below hbb)
      have HU := Lib.hid (HU.out.trans (Joins.below_le hbb HU.out.size))
      clear XA0 XA1 XA2 XA3 XB0 XB1 XB2 XB3 XC0 XC1 XC2 XC3
      clear hal hbb hb
      by_cases h2 : v2 = 0
      · subst h2
        obtain ⟨R, c, rfl, hR, hL, hc, hmC⟩ := HG2.out rfl
        have Hc := Lib.hid hc
        have MC := Lib.hid (hmC.below HU.out)
        clear hc hmC HG2
        have XA0 := XA.out.cell 0
        have XA1 := XA.out.cell 1
        have XA2 := fun ob => (XA.out.alloc ob).cell 0
        have XA3 := fun ob => (XA.out.alloc ob).cell 1
        have XB0 := XB.out.cell 0
        have XB1 := XB.out.cell 1
        have XB2 := fun ob => (XB.out.alloc ob).cell 0
        have XB3 := fun ob => (XB.out.alloc ob).cell 1
        have XC0 := XC.out.cell 0
        have XC1 := XC.out.cell 1
        have XC2 := fun ob => (XC.out.alloc ob).cell 0
        have XC3 := fun ob => (XC.out.alloc ob).cell 1
        go_wp2_with fail
        have hal : Below W2.heap.size W2 W2 := (Below.refl _ _)
        refine (HV2.out _ HU.out).mono ?_
        rintro e W3 ⟨rfl, hb⟩
        have hbb : Below W2.heap.size W2 W3 := hal.trans (hb.mono hal.size)
        have HB := Lib.hid (HB.out.trans (Joins.below_le hbb HB.out.size))
        have XA := Lib.hid (XA.out.below hbb XA.out.lt)
        have XB := Lib.hid (XB.out.below hbb XB.out.lt)
        have XC := Lib.hid (XC.out.below hbb XC.out.lt)
        have HT := Lib.hid (HT.out.here hbb)
        have MA := Lib.hid (MA.out.below hbb)
        have MB := Lib.hid (MB.out.below hbb)
        have HU := Lib.hid (HU.out.trans (Joins.below_le hbb HU.out.size))
        have MC := Lib.hid (MC.out.below hbb)
        clear XA0 XA1 XA2 XA3 XB0 XB1 XB2 XB3 XC0 XC1 XC2 XC3
        clear hal hbb hb
        by_cases h3 : N = M
        · subst h3
          by_cases h4 : P0 = L
          · subst h4
            have hbc : ∀ i, mulr P0 b c i < 2 ^ R := fun i => mulr_lt Hc.out
            have hab : ∀ i, mulr N a b i < 2 ^ P0 := fun i => mulr_lt Hb.out
            have hct : ∀ i, trr P0 c i < 2 ^ P0 := fun i => trr_lt P0 c i
            have hd : ∀ i, mulr R c (trr P0 c) i < 2 ^ P0 := fun i => mulr_lt fun j _ => trr_lt P0 c j
            obtain ⟨ct, hcte⟩ : ∃ f, trr P0 c = f := ⟨_, rfl⟩
            rw [hcte] at hd hct
            obtain ⟨d, hde⟩ : ∃ f, mulr R c ct = f := ⟨_, rfl⟩
            rw [hde] at hd
            have hbd : ∀ i, mulr P0 b d i < 2 ^ P0 := fun i => mulr_lt fun j _ => hd j
            obtain ⟨bd, hbde⟩ : ∃ f, mulr P0 b d = f := ⟨_, rfl⟩
            rw [hbde] at hbd
            have hsum : ∀ i, i < N → (fun i => b i ^^^ bd i) i < 2 ^ P0 := fun i hi => Nat.xor_lt_two_pow (Hb.out i hi) (hbd i)
            have habd : ∀ i, mulr N a bd i < 2 ^ P0 := fun i => mulr_lt fun j _ => hbd j
            have e1 : ∀ i, mulr N a (mulr P0 b c) i = mulr P0 (mulr N a b) c i := fun i => (mulr_assoc N P0 a b c i).symm
            have e2 : ∀ i, trr K (mulr N a b) i = mulr N (trr N b) (trr K a) i := fun i => trr_mulr.symm
            have e3 : ∀ i, i < K → a i = trr N (trr K a) i := fun i hi => (trr_trr hi (Ha.out i hi)).symm
            have e4 : ∀ i, (fun i => mulr N a b i ^^^ mulr N a bd i) i = mulr N a (fun i => b i ^^^ bd i) i := fun i => (mulr_add N a b bd i).symm
            obtain ⟨sm, hsme⟩ : ∃ f, (fun i => b i ^^^ bd i) = f := ⟨_, rfl⟩
            rw [hsme] at hsum e4
            have Hbc := Lib.hid hbc
            have Hab := Lib.hid hab
            have Hct := Lib.hid hct
            have Hd := Lib.hid hd
            have Hbd := Lib.hid hbd
            have Hsm := Lib.hid hsum
            have Habd := Lib.hid habd
            have He1 := Lib.hid e1
            have He2 := Lib.hid e2
            have He3 := Lib.hid e3
            have He4 := Lib.hid e4
            have Hcte := Lib.hid hcte
            have Hde := Lib.hid hde
            have Hbde := Lib.hid hbde
            have Hsme := Lib.hid hsme
            clear hbc hab hct hd hbd hsum habd e1 e2 e3 e4 hcte hde hbde hsme
            have XA0 := XA.out.cell 0
            have XA1 := XA.out.cell 1
            have XA2 := fun ob => (XA.out.alloc ob).cell 0
            have XA3 := fun ob => (XA.out.alloc ob).cell 1
            have XB0 := XB.out.cell 0
            have XB1 := XB.out.cell 1
            have XB2 := fun ob => (XB.out.alloc ob).cell 0
            have XB3 := fun ob => (XB.out.alloc ob).cell 1
            have XC0 := XC.out.cell 0
            have XC1 := XC.out.cell 1
            have XC2 := fun ob => (XC.out.alloc ob).cell 0
            have XC3 := fun ob => (XC.out.alloc ob).cell 1
            go_wp2_with fail
            have hal : Below W3.heap.size W3 W3 := (Below.refl _ _)
            refine (mul_mx N P0 K (by omega) (by omega) (by omega) a b Hb.out o p cap cap' W3 (HT.out.here hal) (MA.out.below hal) (MB.out.below hal)).mono ?_
            rintro e W4 ⟨o4, c4, rfl, hm, hb⟩
            have hbb : Below W3.heap.size W3 W4 := hal.trans (hb.mono hal.size)
            have Mab := Lib.hid (hm)
            have HB := Lib.hid (HB.out.trans (Joins.below_le hbb HB.out.size))
            have XA := Lib.hid (XA.out.below hbb XA.out.lt)
            have XB := Lib.hid (XB.out.below hbb XB.out.lt)
            have XC := Lib.hid (XC.out.below hbb XC.out.lt)
            have HT := Lib.hid (HT.out.here hbb)
            have MA := Lib.hid (MA.out.below hbb)
            have MB := Lib.hid (MB.out.below hbb)
            have HU := Lib.hid (HU.out.trans (Joins.below_le hbb HU.out.size))
            have MC := Lib.hid (MC.out.below hbb)
            clear XA0 XA1 XA2 XA3 XB0 XB1 XB2 XB3 XC0 XC1 XC2 XC3
            clear hal hbb hb hm
            have XA0 := XA.out.cell 0
            have XA1 := XA.out.cell 1
            have XA2 := fun ob => (XA.out.alloc ob).cell 0
            have XA3 := fun ob => (XA.out.alloc ob).cell 1
            have XB0 := XB.out.cell 0
            have XB1 := XB.out.cell 1
            have XB2 := fun ob => (XB.out.alloc ob).cell 0
            have XB3 := fun ob => (XB.out.alloc ob).cell 1
            have XC0 := XC.out.cell 0
            have XC1 := XC.out.cell 1
            have XC2 := fun ob => (XC.out.alloc ob).cell 0
            have XC3 := fun ob => (XC.out.alloc ob).cell 1
            go_wp2_with fail
            have hal : Below W4.heap.size W4 (W4.alloc (.cells #[.int .i64 (P0 : Int), .slice o4 K c4] 24)) := ((Below.refl _ _).alloc (by first | exact Nat.le_refl _ | (simp; done) | (simp; omega)) _)
            refine (mul_mx P0 R N (by omega) (by omega) (by omega) b c Hc.out p q cap' cap2 (W4.alloc (.cells #[.int .i64 (P0 : Int), .slice o4 K c4] 24)) (HT.out.here hal) (MB.out.below hal) (MC.out.below hal)).mono ?_
            rintro e W5 ⟨o5, c5, rfl, hm, hb⟩
            have hbb : Below W4.heap.size W4 W5 := hal.trans (hb.mono hal.size)
            have Xab := Lib.hid ((Box.new W4 #[.int .i64 (P0 : Int), .slice o4 K c4] 24).below hb (by simp))
            have Mbc := Lib.hid (hm)
            have HB := Lib.hid (HB.out.trans (Joins.below_le hbb HB.out.size))
            have XA := Lib.hid (XA.out.below hbb XA.out.lt)
            have XB := Lib.hid (XB.out.below hbb XB.out.lt)
            have XC := Lib.hid (XC.out.below hbb XC.out.lt)
            have HT := Lib.hid (HT.out.here hbb)
            have MA := Lib.hid (MA.out.below hbb)
            have MB := Lib.hid (MB.out.below hbb)
            have HU := Lib.hid (HU.out.trans (Joins.below_le hbb HU.out.size))
            have MC := Lib.hid (MC.out.below hbb)
            have Mab := Lib.hid (Mab.out.below hbb)
            clear XA0 XA1 XA2 XA3 XB0 XB1 XB2 XB3 XC0 XC1 XC2 XC3
            clear hal hbb hb hm
            have XA0 := XA.out.cell 0
            have XA1 := XA.out.cell 1
            have XA2 := fun ob => (XA.out.alloc ob).cell 0
            have XA3 := fun ob => (XA.out.alloc ob).cell 1
            have XB0 := XB.out.cell 0
            have XB1 := XB.out.cell 1
            have XB2 := fun ob => (XB.out.alloc ob).cell 0
            have XB3 := fun ob => (XB.out.alloc ob).cell 1
            have XC0 := XC.out.cell 0
            have XC1 := XC.out.cell 1
            have XC2 := fun ob => (XC.out.alloc ob).cell 0
            have XC3 := fun ob => (XC.out.alloc ob).cell 1
            have Xab0 := Xab.out.cell 0
            have Xab1 := Xab.out.cell 1
            have Xab2 := fun ob => (Xab.out.alloc ob).cell 0
            have Xab3 := fun ob => (Xab.out.alloc ob).cell 1
            go_wp2_with fail
            have hal : Below W5.heap.size W5 (W5.alloc (.cells #[.int .i64 (R : Int), .slice o5 N c5] 24)) := ((Below.refl _ _).alloc (by first | exact Nat.le_refl _ | (simp; done) | (simp; omega)) _)
            refine (mul_mx P0 R K (by omega) (by omega) (by omega) (mulr N a b) c Hc.out o4 q c4 cap2 (W5.alloc (.cells #[.int .i64 (R : Int), .slice o5 N c5] 24)) (HT.out.here hal) (Mab.out.below hal) (MC.out.below hal)).mono ?_
            rintro e W6 ⟨o6, c6, rfl, hm, hb⟩
            have hbb : Below W5.heap.size W5 W6 := hal.trans (hb.mono hal.size)
            have Xbc := Lib.hid ((Box.new W5 #[.int .i64 (R : Int), .slice o5 N c5] 24).below hb (by simp))
            have Mx := Lib.hid (hm)
            have HB := Lib.hid (HB.out.trans (Joins.below_le hbb HB.out.size))
            have XA := Lib.hid (XA.out.below hbb XA.out.lt)
            have XB := Lib.hid (XB.out.below hbb XB.out.lt)
            have XC := Lib.hid (XC.out.below hbb XC.out.lt)
            have HT := Lib.hid (HT.out.here hbb)
            have MA := Lib.hid (MA.out.below hbb)
            have MB := Lib.hid (MB.out.below hbb)
            have HU := Lib.hid (HU.out.trans (Joins.below_le hbb HU.out.size))
            have MC := Lib.hid (MC.out.below hbb)
            have Mab := Lib.hid (Mab.out.below hbb)
            have Xab := Lib.hid (Xab.out.below hbb Xab.out.lt)
            have Mbc := Lib.hid (Mbc.out.below hbb)
            clear XA0 XA1 XA2 XA3 XB0 XB1 XB2 XB3 XC0 XC1 XC2 XC3 Xab0 Xab1 Xab2 Xab3
            clear hal hbb hb hm
            have XA0 := XA.out.cell 0
            have XA1 := XA.out.cell 1
            have XA2 := fun ob => (XA.out.alloc ob).cell 0
            have XA3 := fun ob => (XA.out.alloc ob).cell 1
            have XB0 := XB.out.cell 0
            have XB1 := XB.out.cell 1
            have XB2 := fun ob => (XB.out.alloc ob).cell 0
            have XB3 := fun ob => (XB.out.alloc ob).cell 1
            have XC0 := XC.out.cell 0
            have XC1 := XC.out.cell 1
            have XC2 := fun ob => (XC.out.alloc ob).cell 0
            have XC3 := fun ob => (XC.out.alloc ob).cell 1
            have Xab0 := Xab.out.cell 0
            have Xab1 := Xab.out.cell 1
            have Xab2 := fun ob => (Xab.out.alloc ob).cell 0
            have Xab3 := fun ob => (Xab.out.alloc ob).cell 1
            have Xbc0 := Xbc.out.cell 0
            have Xbc1 := Xbc.out.cell 1
            have Xbc2 := fun ob => (Xbc.out.alloc ob).cell 0
            have Xbc3 := fun ob => (Xbc.out.alloc ob).cell 1
            go_wp2_with fail
            have hal : Below W6.heap.size W6 (W6.alloc (.cells #[.int .i64 (R : Int), .slice o6 K c6] 24)) := ((Below.refl _ _).alloc (by first | exact Nat.le_refl _ | (simp; done) | (simp; omega)) _)
            refine (mul_mx N R K (by omega) (by omega) (by omega) a (mulr P0 b c) (fun i _ => Hbc.out i) o o5 cap c5 (W6.alloc (.cells #[.int .i64 (R : Int), .slice o6 K c6] 24)) (HT.out.here hal) (MA.out.below hal) (Mbc.out.below hal)).mono ?_
            rintro e W7 ⟨o7, c7, rfl, hm, hb⟩
            have hbb : Below W6.heap.size W6 W7 := hal.trans (hb.mono hal.size)
            have Xx := Lib.hid ((Box.new W6 #[.int .i64 (R : Int), .slice o6 K c6] 24).below hb (by simp))
            have My := Lib.hid (hm)
            have HB := Lib.hid (HB.out.trans (Joins.below_le hbb HB.out.size))
            have XA := Lib.hid (XA.out.below hbb XA.out.lt)
            have XB := Lib.hid (XB.out.below hbb XB.out.lt)
            have XC := Lib.hid (XC.out.below hbb XC.out.lt)
            have HT := Lib.hid (HT.out.here hbb)
            have MA := Lib.hid (MA.out.below hbb)
            have MB := Lib.hid (MB.out.below hbb)
            have HU := Lib.hid (HU.out.trans (Joins.below_le hbb HU.out.size))
            have MC := Lib.hid (MC.out.below hbb)
            have Mab := Lib.hid (Mab.out.below hbb)
            have Xab := Lib.hid (Xab.out.below hbb Xab.out.lt)
            have Mbc := Lib.hid (Mbc.out.below hbb)
            have Xbc := Lib.hid (Xbc.out.below hbb Xbc.out.lt)
            have Mx := Lib.hid (Mx.out.below hbb)
            clear XA0 XA1 XA2 XA3 XB0 XB1 XB2 XB3 XC0 XC1 XC2 XC3 Xab0 Xab1 Xab2 Xab3 Xbc0 Xbc1 Xbc2 Xbc3
            clear hal hbb hb hm
            have XA0 := XA.out.cell 0
            have XA1 := XA.out.cell 1
            have XA2 := fun ob => (XA.out.alloc ob).cell 0
            have XA3 := fun ob => (XA.out.alloc ob).cell 1
            have XB0 := XB.out.cell 0
            have XB1 := XB.out.cell 1
            have XB2 := fun ob => (XB.out.alloc ob).cell 0
            have XB3 := fun ob => (XB.out.alloc ob).cell 1
            have XC0 := XC.out.cell 0
            have XC1 := XC.out.cell 1
            have XC2 := fun ob => (XC.out.alloc ob).cell 0
            have XC3 := fun ob => (XC.out.alloc ob).cell 1
            have Xab0 := Xab.out.cell 0
            have Xab1 := Xab.out.cell 1
            have Xab2 := fun ob => (Xab.out.alloc ob).cell 0
            have Xab3 := fun ob => (Xab.out.alloc ob).cell 1
            have Xbc0 := Xbc.out.cell 0
            have Xbc1 := Xbc.out.cell 1
            have Xbc2 := fun ob => (Xbc.out.alloc ob).cell 0
            have Xbc3 := fun ob => (Xbc.out.alloc ob).cell 1
            have Xx0 := Xx.out.cell 0
            have Xx1 := Xx.out.cell 1
            have Xx2 := fun ob => (Xx.out.alloc ob).cell 0
            have Xx3 := fun ob => (Xx.out.alloc ob).cell 1
            go_wp2_with fail
            have hal : Below W7.heap.size W7 (W7.alloc (.cells #[.int .i64 (R : Int), .slice o7 K c7] 24)) := ((Below.refl _ _).alloc (by first | exact Nat.le_refl _ | (simp; done) | (simp; omega)) _)
            refine (same_at R K (by omega) (by omega) _ _ (fun i _ => He1.out i) o6 o7 c6 c7 (W7.alloc (.cells #[.int .i64 (R : Int), .slice o7 K c7] 24)) (Mx.out.below hal) (My.out.below hal)).mono ?_
            rintro e W8 ⟨rfl, hb⟩
            have hbb : Below W7.heap.size W7 W8 := hal.trans (hb.mono hal.size)
            have Xy := Lib.hid ((Box.new W7 #[.int .i64 (R : Int), .slice o7 K c7] 24).below hb (by simp))
            have HB := Lib.hid (HB.out.trans (Joins.below_le hbb HB.out.size))
            have XA := Lib.hid (XA.out.below hbb XA.out.lt)
            have XB := Lib.hid (XB.out.below hbb XB.out.lt)
            have XC := Lib.hid (XC.out.below hbb XC.out.lt)
            have HT := Lib.hid (HT.out.here hbb)
            have MA := Lib.hid (MA.out.below hbb)
            have MB := Lib.hid (MB.out.below hbb)
            have HU := Lib.hid (HU.out.trans (Joins.below_le hbb HU.out.size))
            have MC := Lib.hid (MC.out.below hbb)
            have Mab := Lib.hid (Mab.out.below hbb)
            have Xab := Lib.hid (Xab.out.below hbb Xab.out.lt)
            have Mbc := Lib.hid (Mbc.out.below hbb)
            have Xbc := Lib.hid (Xbc.out.below hbb Xbc.out.lt)
            have Mx := Lib.hid (Mx.out.below hbb)
            have Xx := Lib.hid (Xx.out.below hbb Xx.out.lt)
            have My := Lib.hid (My.out.below hbb)
            clear XA0 XA1 XA2 XA3 XB0 XB1 XB2 XB3 XC0 XC1 XC2 XC3 Xab0 Xab1 Xab2 Xab3 Xbc0 Xbc1 Xbc2 Xbc3 Xx0 Xx1 Xx2 Xx3
            clear hal hbb hb
            clear Xx Xy Xbc Mx My Mbc
            have XA0 := XA.out.cell 0
            have XA1 := XA.out.cell 1
            have XA2 := fun ob => (XA.out.alloc ob).cell 0
            have XA3 := fun ob => (XA.out.alloc ob).cell 1
            have XB0 := XB.out.cell 0
            have XB1 := XB.out.cell 1
            have XB2 := fun ob => (XB.out.alloc ob).cell 0
            have XB3 := fun ob => (XB.out.alloc ob).cell 1
            have XC0 := XC.out.cell 0
            have XC1 := XC.out.cell 1
            have XC2 := fun ob => (XC.out.alloc ob).cell 0
            have XC3 := fun ob => (XC.out.alloc ob).cell 1
            have Xab0 := Xab.out.cell 0
            have Xab1 := Xab.out.cell 1
            have Xab2 := fun ob => (Xab.out.alloc ob).cell 0
            have Xab3 := fun ob => (Xab.out.alloc ob).cell 1
            go_wp2_with fail
            have hal : Below W8.heap.size W8 W8 := (Below.refl _ _)
            refine (trans_mx N K (by omega) (by omega) a o cap W8 (MA.out.below hal)).mono ?_
            rintro e W9 ⟨o9, c9, rfl, hm, hb⟩
            have hbb : Below W8.heap.size W8 W9 := hal.trans (hb.mono hal.size)
            have Mat := Lib.hid (hm)
            have HB := Lib.hid (HB.out.trans (Joins.below_le hbb HB.out.size))
            have XA := Lib.hid (XA.out.below hbb XA.out.lt)
            have XB := Lib.hid (XB.out.below hbb XB.out.lt)
            have XC := Lib.hid (XC.out.below hbb XC.out.lt)
            have HT := Lib.hid (HT.out.here hbb)
            have MA := Lib.hid (MA.out.below hbb)
            have MB := Lib.hid (MB.out.below hbb)
            have HU := Lib.hid (HU.out.trans (Joins.below_le hbb HU.out.size))
            have MC := Lib.hid (MC.out.below hbb)
            have Mab := Lib.hid (Mab.out.below hbb)
            have Xab := Lib.hid (Xab.out.below hbb Xab.out.lt)
            clear XA0 XA1 XA2 XA3 XB0 XB1 XB2 XB3 XC0 XC1 XC2 XC3 Xab0 Xab1 Xab2 Xab3
            clear hal hbb hb hm
            have XA0 := XA.out.cell 0
            have XA1 := XA.out.cell 1
            have XA2 := fun ob => (XA.out.alloc ob).cell 0
            have XA3 := fun ob => (XA.out.alloc ob).cell 1
            have XB0 := XB.out.cell 0
            have XB1 := XB.out.cell 1
            have XB2 := fun ob => (XB.out.alloc ob).cell 0
            have XB3 := fun ob => (XB.out.alloc ob).cell 1
            have XC0 := XC.out.cell 0
            have XC1 := XC.out.cell 1
            have XC2 := fun ob => (XC.out.alloc ob).cell 0
            have XC3 := fun ob => (XC.out.alloc ob).cell 1
            have Xab0 := Xab.out.cell 0
            have Xab1 := Xab.out.cell 1
            have Xab2 := fun ob => (Xab.out.alloc ob).cell 0
            have Xab3 := fun ob => (Xab.out.alloc ob).cell 1
            go_wp2_with fail
            have hal : Below W9.heap.size W9 (W9.alloc (.cells #[.int .i64 (K : Int), .slice o9 N c9] 24)) := ((Below.refl _ _).alloc (by first | exact Nat.le_refl _ | (simp; done) | (simp; omega)) _)
            refine (trans_mx P0 N (by omega) (by omega) b p cap' (W9.alloc (.cells #[.int .i64 (K : Int), .slice o9 N c9] 24)) (MB.out.below hal)).mono ?_
            rintro e W10 ⟨o10, c10, rfl, hm, hb⟩
            have hbb : Below W9.heap.size W9 W10 := hal.trans (hb.mono hal.size)
            have Xat := Lib.hid ((Box.new W9 #[.int .i64 (K : Int), .slice o9 N c9] 24).below hb (by simp))
            have Mbt := Lib.hid (hm)
            have HB := Lib.hid (HB.out.trans (Joins.below_le hbb HB.out.size))
            have XA := Lib.hid (XA.out.below hbb XA.out.lt)
            have XB := Lib.hid (XB.out.below hbb XB.out.lt)
            have XC := Lib.hid (XC.out.below hbb XC.out.lt)
            have HT := Lib.hid (HT.out.here hbb)
            have MA := Lib.hid (MA.out.below hbb)
            have MB := Lib.hid (MB.out.below hbb)
            have HU := Lib.hid (HU.out.trans (Joins.below_le hbb HU.out.size))
            have MC := Lib.hid (MC.out.below hbb)
            have Mab := Lib.hid (Mab.out.below hbb)
            have Xab := Lib.hid (Xab.out.below hbb Xab.out.lt)
            have Mat := Lib.hid (Mat.out.below hbb)
            clear XA0 XA1 XA2 XA3 XB0 XB1 XB2 XB3 XC0 XC1 XC2 XC3 Xab0 Xab1 Xab2 Xab3
            clear hal hbb hb hm
            have XA0 := XA.out.cell 0
            have XA1 := XA.out.cell 1
            have XA2 := fun ob => (XA.out.alloc ob).cell 0
            have XA3 := fun ob => (XA.out.alloc ob).cell 1
            have XB0 := XB.out.cell 0
            have XB1 := XB.out.cell 1
            have XB2 := fun ob => (XB.out.alloc ob).cell 0
            have XB3 := fun ob => (XB.out.alloc ob).cell 1
            have XC0 := XC.out.cell 0
            have XC1 := XC.out.cell 1
            have XC2 := fun ob => (XC.out.alloc ob).cell 0
            have XC3 := fun ob => (XC.out.alloc ob).cell 1
            have Xab0 := Xab.out.cell 0
            have Xab1 := Xab.out.cell 1
            have Xab2 := fun ob => (Xab.out.alloc ob).cell 0
            have Xab3 := fun ob => (Xab.out.alloc ob).cell 1
            have Xat0 := Xat.out.cell 0
            have Xat1 := Xat.out.cell 1
            have Xat2 := fun ob => (Xat.out.alloc ob).cell 0
            have Xat3 := fun ob => (Xat.out.alloc ob).cell 1
            go_wp2_with fail
            have hal : Below W10.heap.size W10 (W10.alloc (.cells #[.int .i64 (N : Int), .slice o10 P0 c10] 24)) := ((Below.refl _ _).alloc (by first | exact Nat.le_refl _ | (simp; done) | (simp; omega)) _)
            refine (mul_mx N K P0 (by omega) (by omega) (by omega) (trr N b) (trr K a) (fun i _ => trr_lt K a i) o10 o9 c10 c9 (W10.alloc (.cells #[.int .i64 (N : Int), .slice o10 P0 c10] 24)) (HT.out.here hal) (Mbt.out.below hal) (Mat.out.below hal)).mono ?_
            rintro e W11 ⟨o11, c11, rfl, hm, hb⟩
            have hbb : Below W10.heap.size W10 W11 := hal.trans (hb.mono hal.size)
            have Xbt := Lib.hid ((Box.new W10 #[.int .i64 (N : Int), .slice o10 P0 c10] 24).below hb (by simp))
            have Mba := Lib.hid (hm)
            have HB := Lib.hid (HB.out.trans (Joins.below_le hbb HB.out.size))
            have XA := Lib.hid (XA.out.below hbb XA.out.lt)
            have XB := Lib.hid (XB.out.below hbb XB.out.lt)
            have XC := Lib.hid (XC.out.below hbb XC.out.lt)
            have HT := Lib.hid (HT.out.here hbb)
            have MA := Lib.hid (MA.out.below hbb)
            have MB := Lib.hid (MB.out.below hbb)
            have HU := Lib.hid (HU.out.trans (Joins.below_le hbb HU.out.size))
            have MC := Lib.hid (MC.out.below hbb)
            have Mab := Lib.hid (Mab.out.below hbb)
            have Xab := Lib.hid (Xab.out.below hbb Xab.out.lt)
            have Mat := Lib.hid (Mat.out.below hbb)
            have Xat := Lib.hid (Xat.out.below hbb Xat.out.lt)
            have Mbt := Lib.hid (Mbt.out.below hbb)
            clear XA0 XA1 XA2 XA3 XB0 XB1 XB2 XB3 XC0 XC1 XC2 XC3 Xab0 Xab1 Xab2 Xab3 Xat0 Xat1 Xat2 Xat3
            clear hal hbb hb hm
            have XA0 := XA.out.cell 0
            have XA1 := XA.out.cell 1
            have XA2 := fun ob => (XA.out.alloc ob).cell 0
            have XA3 := fun ob => (XA.out.alloc ob).cell 1
            have XB0 := XB.out.cell 0
            have XB1 := XB.out.cell 1
            have XB2 := fun ob => (XB.out.alloc ob).cell 0
            have XB3 := fun ob => (XB.out.alloc ob).cell 1
            have XC0 := XC.out.cell 0
            have XC1 := XC.out.cell 1
            have XC2 := fun ob => (XC.out.alloc ob).cell 0
            have XC3 := fun ob => (XC.out.alloc ob).cell 1
            have Xab0 := Xab.out.cell 0
            have Xab1 := Xab.out.cell 1
            have Xab2 := fun ob => (Xab.out.alloc ob).cell 0
            have Xab3 := fun ob => (Xab.out.alloc ob).cell 1
            have Xat0 := Xat.out.cell 0
            have Xat1 := Xat.out.cell 1
            have Xat2 := fun ob => (Xat.out.alloc ob).cell 0
            have Xat3 := fun ob => (Xat.out.alloc ob).cell 1
            have Xbt0 := Xbt.out.cell 0
            have Xbt1 := Xbt.out.cell 1
            have Xbt2 := fun ob => (Xbt.out.alloc ob).cell 0
            have Xbt3 := fun ob => (Xbt.out.alloc ob).cell 1
            go_wp2_with fail
            have hal : Below W11.heap.size W11 (W11.alloc (.cells #[.int .i64 (K : Int), .slice o11 P0 c11] 24)) := ((Below.refl _ _).alloc (by first | exact Nat.le_refl _ | (simp; done) | (simp; omega)) _)
            refine (trans_mx P0 K (by omega) (by omega) (mulr N a b) o4 c4 (W11.alloc (.cells #[.int .i64 (K : Int), .slice o11 P0 c11] 24)) (Mab.out.below hal)).mono ?_
            rintro e W12 ⟨o12, c12, rfl, hm, hb⟩
            have hbb : Below W11.heap.size W11 W12 := hal.trans (hb.mono hal.size)
            have Xba := Lib.hid ((Box.new W11 #[.int .i64 (K : Int), .slice o11 P0 c11] 24).below hb (by simp))
            have Mabt := Lib.hid (hm)
            have HB := Lib.hid (HB.out.trans (Joins.below_le hbb HB.out.size))
            have XA := Lib.hid (XA.out.below hbb XA.out.lt)
            have XB := Lib.hid (XB.out.below hbb XB.out.lt)
            have XC := Lib.hid (XC.out.below hbb XC.out.lt)
            have HT := Lib.hid (HT.out.here hbb)
            have MA := Lib.hid (MA.out.below hbb)
            have MB := Lib.hid (MB.out.below hbb)
            have HU := Lib.hid (HU.out.trans (Joins.below_le hbb HU.out.size))
            have MC := Lib.hid (MC.out.below hbb)
            have Mab := Lib.hid (Mab.out.below hbb)
            have Xab := Lib.hid (Xab.out.below hbb Xab.out.lt)
            have Mat := Lib.hid (Mat.out.below hbb)
            have Xat := Lib.hid (Xat.out.below hbb Xat.out.lt)
            have Mbt := Lib.hid (Mbt.out.below hbb)
            have Xbt := Lib.hid (Xbt.out.below hbb Xbt.out.lt)
            have Mba := Lib.hid (Mba.out.below hbb)
            clear XA0 XA1 XA2 XA3 XB0 XB1 XB2 XB3 XC0 XC1 XC2 XC3 Xab0 Xab1 Xab2 Xab3 Xat0 Xat1 Xat2 Xat3 Xbt0 Xbt1 Xbt2 Xbt3
            clear hal hbb hb hm
            have XA0 := XA.out.cell 0
            have XA1 := XA.out.cell 1
            have XA2 := fun ob => (XA.out.alloc ob).cell 0
            have XA3 := fun ob => (XA.out.alloc ob).cell 1
            have XB0 := XB.out.cell 0
            have XB1 := XB.out.cell 1
            have XB2 := fun ob => (XB.out.alloc ob).cell 0
            have XB3 := fun ob => (XB.out.alloc ob).cell 1
            have XC0 := XC.out.cell 0
            have XC1 := XC.out.cell 1
            have XC2 := fun ob => (XC.out.alloc ob).cell 0
            have XC3 := fun ob => (XC.out.alloc ob).cell 1
            have Xab0 := Xab.out.cell 0
            have Xab1 := Xab.out.cell 1
            have Xab2 := fun ob => (Xab.out.alloc ob).cell 0
            have Xab3 := fun ob => (Xab.out.alloc ob).cell 1
            have Xat0 := Xat.out.cell 0
            have Xat1 := Xat.out.cell 1
            have Xat2 := fun ob => (Xat.out.alloc ob).cell 0
            have Xat3 := fun ob => (Xat.out.alloc ob).cell 1
            have Xbt0 := Xbt.out.cell 0
            have Xbt1 := Xbt.out.cell 1
            have Xbt2 := fun ob => (Xbt.out.alloc ob).cell 0
            have Xbt3 := fun ob => (Xbt.out.alloc ob).cell 1
            have Xba0 := Xba.out.cell 0
            have Xba1 := Xba.out.cell 1
            have Xba2 := fun ob => (Xba.out.alloc ob).cell 0
            have Xba3 := fun ob => (Xba.out.alloc ob).cell 1
            go_wp2_with fail
            have hal : Below W12.heap.size W12 (W12.alloc (.cells #[.int .i64 (K : Int), .slice o12 P0 c12] 24)) := ((Below.refl _ _).alloc (by first | exact Nat.le_refl _ | (simp; done) | (simp; omega)) _)
            refine (trans_mx K N (by omega) (by omega) (trr K a) o9 c9 (W12.alloc (.cells #[.int .i64 (K : Int), .slice o12 P0 c12] 24)) (Mat.out.below hal)).mono ?_
            rintro e W13 ⟨o13, c13, rfl, hm, hb⟩
            have hbb : Below W12.heap.size W12 W13 := hal.trans (hb.mono hal.size)
            have Xabt := Lib.hid ((Box.new W12 #[.int .i64 (K : Int), .slice o12 P0 c12] 24).below hb (by simp))
            have Mback := Lib.hid (hm)
            have HB := Lib.hid (HB.out.trans (Joins.below_le hbb HB.out.size))
            have XA := Lib.hid (XA.out.below hbb XA.out.lt)
            have XB := Lib.hid (XB.out.below hbb XB.out.lt)
            have XC := Lib.hid (XC.out.below hbb XC.out.lt)
            have HT := Lib.hid (HT.out.here hbb)
            have MA := Lib.hid (MA.out.below hbb)
            have MB := Lib.hid (MB.out.below hbb)
            have HU := Lib.hid (HU.out.trans (Joins.below_le hbb HU.out.size))
            have MC := Lib.hid (MC.out.below hbb)
            have Mab := Lib.hid (Mab.out.below hbb)
            have Xab := Lib.hid (Xab.out.below hbb Xab.out.lt)
            have Mat := Lib.hid (Mat.out.below hbb)
            have Xat := Lib.hid (Xat.out.below hbb Xat.out.lt)
            have Mbt := Lib.hid (Mbt.out.below hbb)
            have Xbt := Lib.hid (Xbt.out.below hbb Xbt.out.lt)
            have Mba := Lib.hid (Mba.out.below hbb)
            have Xba := Lib.hid (Xba.out.below hbb Xba.out.lt)
            have Mabt := Lib.hid (Mabt.out.below hbb)
            clear XA0 XA1 XA2 XA3 XB0 XB1 XB2 XB3 XC0 XC1 XC2 XC3 Xab0 Xab1 Xab2 Xab3 Xat0 Xat1 Xat2 Xat3 Xbt0 Xbt1 Xbt2 Xbt3 Xba0 Xba1 Xba2 Xba3
            clear hal hbb hb hm
            have XA0 := XA.out.cell 0
            have XA1 := XA.out.cell 1
            have XA2 := fun ob => (XA.out.alloc ob).cell 0
            have XA3 := fun ob => (XA.out.alloc ob).cell 1
            have XB0 := XB.out.cell 0
            have XB1 := XB.out.cell 1
            have XB2 := fun ob => (XB.out.alloc ob).cell 0
            have XB3 := fun ob => (XB.out.alloc ob).cell 1
            have XC0 := XC.out.cell 0
            have XC1 := XC.out.cell 1
            have XC2 := fun ob => (XC.out.alloc ob).cell 0
            have XC3 := fun ob => (XC.out.alloc ob).cell 1
            have Xab0 := Xab.out.cell 0
            have Xab1 := Xab.out.cell 1
            have Xab2 := fun ob => (Xab.out.alloc ob).cell 0
            have Xab3 := fun ob => (Xab.out.alloc ob).cell 1
            have Xat0 := Xat.out.cell 0
            have Xat1 := Xat.out.cell 1
            have Xat2 := fun ob => (Xat.out.alloc ob).cell 0
            have Xat3 := fun ob => (Xat.out.alloc ob).cell 1
            have Xbt0 := Xbt.out.cell 0
            have Xbt1 := Xbt.out.cell 1
            have Xbt2 := fun ob => (Xbt.out.alloc ob).cell 0
            have Xbt3 := fun ob => (Xbt.out.alloc ob).cell 1
            have Xba0 := Xba.out.cell 0
            have Xba1 := Xba.out.cell 1
            have Xba2 := fun ob => (Xba.out.alloc ob).cell 0
            have Xba3 := fun ob => (Xba.out.alloc ob).cell 1
            have Xabt0 := Xabt.out.cell 0
            have Xabt1 := Xabt.out.cell 1
            have Xabt2 := fun ob => (Xabt.out.alloc ob).cell 0
            have Xabt3 := fun ob => (Xabt.out.alloc ob).cell 1
            go_wp2_with fail
            have hal : Below W13.heap.size W13 (W13.alloc (.cells #[.int .i64 (N : Int), .slice o13 K c13] 24)) := ((Below.refl _ _).alloc (by first | exact Nat.le_refl _ | (simp; done) | (simp; omega)) _)
            refine (same_at K P0 (by omega) (by omega) _ _ (fun i _ => He2.out i) o11 o12 c11 c12 (W13.alloc (.cells #[.int .i64 (N : Int), .slice o13 K c13] 24)) (Mba.out.below hal) (Mabt.out.below hal)).mono ?_
            rintro e W14 ⟨rfl, hb⟩
            have hbb : Below W13.heap.size W13 W14 := hal.trans (hb.mono hal.size)
            have Xback := Lib.hid ((Box.new W13 #[.int .i64 (N : Int), .slice o13 K c13] 24).below hb (by simp))
            have HB := Lib.hid (HB.out.trans (Joins.below_le hbb HB.out.size))
            have XA := Lib.hid (XA.out.below hbb XA.out.lt)
            have XB := Lib.hid (XB.out.below hbb XB.out.lt)
            have XC := Lib.hid (XC.out.below hbb XC.out.lt)
            have HT := Lib.hid (HT.out.here hbb)
            have MA := Lib.hid (MA.out.below hbb)
            have MB := Lib.hid (MB.out.below hbb)
            have HU := Lib.hid (HU.out.trans (Joins.below_le hbb HU.out.size))
            have MC := Lib.hid (MC.out.below hbb)
            have Mab := Lib.hid (Mab.out.below hbb)
            have Xab := Lib.hid (Xab.out.below hbb Xab.out.lt)
            have Mat := Lib.hid (Mat.out.below hbb)
            have Xat := Lib.hid (Xat.out.below hbb Xat.out.lt)
            have Mbt := Lib.hid (Mbt.out.below hbb)
            have Xbt := Lib.hid (Xbt.out.below hbb Xbt.out.lt)
            have Mba := Lib.hid (Mba.out.below hbb)
            have Xba := Lib.hid (Xba.out.below hbb Xba.out.lt)
            have Mabt := Lib.hid (Mabt.out.below hbb)
            have Xabt := Lib.hid (Xabt.out.below hbb Xabt.out.lt)
            have Mback := Lib.hid (Mback.out.below hbb)
            clear XA0 XA1 XA2 XA3 XB0 XB1 XB2 XB3 XC0 XC1 XC2 XC3 Xab0 Xab1 Xab2 Xab3 Xat0 Xat1 Xat2 Xat3 Xbt0 Xbt1 Xbt2 Xbt3 Xba0 Xba1 Xba2 Xba3 Xabt0 Xabt1 Xabt2 Xabt3
            clear hal hbb hb
            have XA0 := XA.out.cell 0
            have XA1 := XA.out.cell 1
            have XA2 := fun ob => (XA.out.alloc ob).cell 0
            have XA3 := fun ob => (XA.out.alloc ob).cell 1
            have XB0 := XB.out.cell 0
            have XB1 := XB.out.cell 1
            have XB2 := fun ob => (XB.out.alloc ob).cell 0
            have XB3 := fun ob => (XB.out.alloc ob).cell 1
            have XC0 := XC.out.cell 0
            have XC1 := XC.out.cell 1
            have XC2 := fun ob => (XC.out.alloc ob).cell 0
            have XC3 := fun ob => (XC.out.alloc ob).cell 1
            have Xab0 := Xab.out.cell 0
            have Xab1 := Xab.out.cell 1
            have Xab2 := fun ob => (Xab.out.alloc ob).cell 0
            have Xab3 := fun ob => (Xab.out.alloc ob).cell 1
            have Xat0 := Xat.out.cell 0
            have Xat1 := Xat.out.cell 1
            have Xat2 := fun ob => (Xat.out.alloc ob).cell 0
            have Xat3 := fun ob => (Xat.out.alloc ob).cell 1
            have Xbt0 := Xbt.out.cell 0
            have Xbt1 := Xbt.out.cell 1
            have Xbt2 := fun ob => (Xbt.out.alloc ob).cell 0
            have Xbt3 := fun ob => (Xbt.out.alloc ob).cell 1
            have Xba0 := Xba.out.cell 0
            have Xba1 := Xba.out.cell 1
            have Xba2 := fun ob => (Xba.out.alloc ob).cell 0
            have Xba3 := fun ob => (Xba.out.alloc ob).cell 1
            have Xabt0 := Xabt.out.cell 0
            have Xabt1 := Xabt.out.cell 1
            have Xabt2 := fun ob => (Xabt.out.alloc ob).cell 0
            have Xabt3 := fun ob => (Xabt.out.alloc ob).cell 1
            have Xback0 := Xback.out.cell 0
            have Xback1 := Xback.out.cell 1
            have Xback2 := fun ob => (Xback.out.alloc ob).cell 0
            have Xback3 := fun ob => (Xback.out.alloc ob).cell 1
            go_wp2_with fail
            have hal : Below W14.heap.size W14 W14 := (Below.refl _ _)
            refine (same_at N K (by omega) (by omega) _ _ He3.out o13 o c13 cap W14 (Mback.out.below hal) (MA.out.below hal)).mono ?_
            rintro e W15 ⟨rfl, hb⟩
            have hbb : Below W14.heap.size W14 W15 := hal.trans (hb.mono hal.size)
            have HB := Lib.hid (HB.out.trans (Joins.below_le hbb HB.out.size))
            have XA := Lib.hid (XA.out.below hbb XA.out.lt)
            have XB := Lib.hid (XB.out.below hbb XB.out.lt)
            have XC := Lib.hid (XC.out.below hbb XC.out.lt)
            have HT := Lib.hid (HT.out.here hbb)
            have MA := Lib.hid (MA.out.below hbb)
            have MB := Lib.hid (MB.out.below hbb)
            have HU := Lib.hid (HU.out.trans (Joins.below_le hbb HU.out.size))
            have MC := Lib.hid (MC.out.below hbb)
            have Mab := Lib.hid (Mab.out.below hbb)
            have Xab := Lib.hid (Xab.out.below hbb Xab.out.lt)
            have Mat := Lib.hid (Mat.out.below hbb)
            have Xat := Lib.hid (Xat.out.below hbb Xat.out.lt)
            have Mbt := Lib.hid (Mbt.out.below hbb)
            have Xbt := Lib.hid (Xbt.out.below hbb Xbt.out.lt)
            have Mba := Lib.hid (Mba.out.below hbb)
            have Xba := Lib.hid (Xba.out.below hbb Xba.out.lt)
            have Mabt := Lib.hid (Mabt.out.below hbb)
            have Xabt := Lib.hid (Xabt.out.below hbb Xabt.out.lt)
            have Mback := Lib.hid (Mback.out.below hbb)
            have Xback := Lib.hid (Xback.out.below hbb Xback.out.lt)
            clear XA0 XA1 XA2 XA3 XB0 XB1 XB2 XB3 XC0 XC1 XC2 XC3 Xab0 Xab1 Xab2 Xab3 Xat0 Xat1 Xat2 Xat3 Xbt0 Xbt1 Xbt2 Xbt3 Xba0 Xba1 Xba2 Xba3 Xabt0 Xabt1 Xabt2 Xabt3 Xback0 Xback1 Xback2 Xback3
            clear hal hbb hb
            clear Xat Xbt Xba Xabt Xback Mat Mbt Mba Mabt Mback
            have XA0 := XA.out.cell 0
            have XA1 := XA.out.cell 1
            have XA2 := fun ob => (XA.out.alloc ob).cell 0
            have XA3 := fun ob => (XA.out.alloc ob).cell 1
            have XB0 := XB.out.cell 0
            have XB1 := XB.out.cell 1
            have XB2 := fun ob => (XB.out.alloc ob).cell 0
            have XB3 := fun ob => (XB.out.alloc ob).cell 1
            have XC0 := XC.out.cell 0
            have XC1 := XC.out.cell 1
            have XC2 := fun ob => (XC.out.alloc ob).cell 0
            have XC3 := fun ob => (XC.out.alloc ob).cell 1
            have Xab0 := Xab.out.cell 0
            have Xab1 := Xab.out.cell 1
            have Xab2 := fun ob => (Xab.out.alloc ob).cell 0
            have Xab3 := fun ob => (Xab.out.alloc ob).cell 1
            go_wp2_with fail
            have hal : Below W15.heap.size W15 W15 := (Below.refl _ _)
            refine (trans_mx R P0 (by omega) (by omega) c q cap2 W15 (MC.out.below hal)).mono ?_
            rintro e W16 ⟨o16, c16, rfl, hm, hb⟩
            have hbb : Below W15.heap.size W15 W16 := hal.trans (hb.mono hal.size)
            have Mct := Lib.hid (hm)
            have HB := Lib.hid (HB.out.trans (Joins.below_le hbb HB.out.size))
            have XA := Lib.hid (XA.out.below hbb XA.out.lt)
            have XB := Lib.hid (XB.out.below hbb XB.out.lt)
            have XC := Lib.hid (XC.out.below hbb XC.out.lt)
            have HT := Lib.hid (HT.out.here hbb)
            have MA := Lib.hid (MA.out.below hbb)
            have MB := Lib.hid (MB.out.below hbb)
            have HU := Lib.hid (HU.out.trans (Joins.below_le hbb HU.out.size))
            have MC := Lib.hid (MC.out.below hbb)
            have Mab := Lib.hid (Mab.out.below hbb)
            have Xab := Lib.hid (Xab.out.below hbb Xab.out.lt)
            clear XA0 XA1 XA2 XA3 XB0 XB1 XB2 XB3 XC0 XC1 XC2 XC3 Xab0 Xab1 Xab2 Xab3
            clear hal hbb hb hm
            rw [Hcte.out] at Mct
            have XA0 := XA.out.cell 0
            have XA1 := XA.out.cell 1
            have XA2 := fun ob => (XA.out.alloc ob).cell 0
            have XA3 := fun ob => (XA.out.alloc ob).cell 1
            have XB0 := XB.out.cell 0
            have XB1 := XB.out.cell 1
            have XB2 := fun ob => (XB.out.alloc ob).cell 0
            have XB3 := fun ob => (XB.out.alloc ob).cell 1
            have XC0 := XC.out.cell 0
            have XC1 := XC.out.cell 1
            have XC2 := fun ob => (XC.out.alloc ob).cell 0
            have XC3 := fun ob => (XC.out.alloc ob).cell 1
            have Xab0 := Xab.out.cell 0
            have Xab1 := Xab.out.cell 1
            have Xab2 := fun ob => (Xab.out.alloc ob).cell 0
            have Xab3 := fun ob => (Xab.out.alloc ob).cell 1
            go_wp2_with fail
            have hal : Below W16.heap.size W16 (W16.alloc (.cells #[.int .i64 (P0 : Int), .slice o16 R c16] 24)) := ((Below.refl _ _).alloc (by first | exact Nat.le_refl _ | (simp; done) | (simp; omega)) _)
            refine (mul_mx R P0 P0 (by omega) (by omega) (by omega) c ct (fun i _ => Hct.out i) q o16 cap2 c16 (W16.alloc (.cells #[.int .i64 (P0 : Int), .slice o16 R c16] 24)) (HT.out.here hal) (MC.out.below hal) (Mct.out.below hal)).mono ?_
            rintro e W17 ⟨o17, c17, rfl, hm, hb⟩
            have hbb : Below W16.heap.size W16 W17 := hal.trans (hb.mono hal.size)
            have Xct := Lib.hid ((Box.new W16 #[.int .i64 (P0 : Int), .slice o16 R c16] 24).below hb (by simp))
            have Md := Lib.hid (hm)
            have HB := Lib.hid (HB.out.trans (Joins.below_le hbb HB.out.size))
            have XA := Lib.hid (XA.out.below hbb XA.out.lt)
            have XB := Lib.hid (XB.out.below hbb XB.out.lt)
            have XC := Lib.hid (XC.out.below hbb XC.out.lt)
            have HT := Lib.hid (HT.out.here hbb)
            have MA := Lib.hid (MA.out.below hbb)
            have MB := Lib.hid (MB.out.below hbb)
            have HU := Lib.hid (HU.out.trans (Joins.below_le hbb HU.out.size))
            have MC := Lib.hid (MC.out.below hbb)
            have Mab := Lib.hid (Mab.out.below hbb)
            have Xab := Lib.hid (Xab.out.below hbb Xab.out.lt)
            have Mct := Lib.hid (Mct.out.below hbb)
            clear XA0 XA1 XA2 XA3 XB0 XB1 XB2 XB3 XC0 XC1 XC2 XC3 Xab0 Xab1 Xab2 Xab3
            clear hal hbb hb hm
            rw [Hde.out] at Md
            have XA0 := XA.out.cell 0
            have XA1 := XA.out.cell 1
            have XA2 := fun ob => (XA.out.alloc ob).cell 0
            have XA3 := fun ob => (XA.out.alloc ob).cell 1
            have XB0 := XB.out.cell 0
            have XB1 := XB.out.cell 1
            have XB2 := fun ob => (XB.out.alloc ob).cell 0
            have XB3 := fun ob => (XB.out.alloc ob).cell 1
            have XC0 := XC.out.cell 0
            have XC1 := XC.out.cell 1
            have XC2 := fun ob => (XC.out.alloc ob).cell 0
            have XC3 := fun ob => (XC.out.alloc ob).cell 1
            have Xab0 := Xab.out.cell 0
            have Xab1 := Xab.out.cell 1
            have Xab2 := fun ob => (Xab.out.alloc ob).cell 0
            have Xab3 := fun ob => (Xab.out.alloc ob).cell 1
            have Xct0 := Xct.out.cell 0
            have Xct1 := Xct.out.cell 1
            have Xct2 := fun ob => (Xct.out.alloc ob).cell 0
            have Xct3 := fun ob => (Xct.out.alloc ob).cell 1
            go_wp2_with fail
            have hal : Below W17.heap.size W17 (W17.alloc (.cells #[.int .i64 (P0 : Int), .slice o17 P0 c17] 24)) := ((Below.refl _ _).alloc (by first | exact Nat.le_refl _ | (simp; done) | (simp; omega)) _)
            refine (mul_mx P0 P0 N (by omega) (by omega) (by omega) b d (fun i _ => Hd.out i) p o17 cap' c17 (W17.alloc (.cells #[.int .i64 (P0 : Int), .slice o17 P0 c17] 24)) (HT.out.here hal) (MB.out.below hal) (Md.out.below hal)).mono ?_
            rintro e W18 ⟨o18, c18, rfl, hm, hb⟩
            have hbb : Below W17.heap.size W17 W18 := hal.trans (hb.mono hal.size)
            have Xd := Lib.hid ((Box.new W17 #[.int .i64 (P0 : Int), .slice o17 P0 c17] 24).below hb (by simp))
            have Mbd := Lib.hid (hm)
            have HB := Lib.hid (HB.out.trans (Joins.below_le hbb HB.out.size))
            have XA := Lib.hid (XA.out.below hbb XA.out.lt)
            have XB := Lib.hid (XB.out.below hbb XB.out.lt)
            have XC := Lib.hid (XC.out.below hbb XC.out.lt)
            have HT := Lib.hid (HT.out.here hbb)
            have MA := Lib.hid (MA.out.below hbb)
            have MB := Lib.hid (MB.out.below hbb)
            have HU := Lib.hid (HU.out.trans (Joins.below_le hbb HU.out.size))
            have MC := Lib.hid (MC.out.below hbb)
            have Mab := Lib.hid (Mab.out.below hbb)
            have Xab := Lib.hid (Xab.out.below hbb Xab.out.lt)
            have Mct := Lib.hid (Mct.out.below hbb)
            have Xct := Lib.hid (Xct.out.below hbb Xct.out.lt)
            have Md := Lib.hid (Md.out.below hbb)
            clear XA0 XA1 XA2 XA3 XB0 XB1 XB2 XB3 XC0 XC1 XC2 XC3 Xab0 Xab1 Xab2 Xab3 Xct0 Xct1 Xct2 Xct3
            clear hal hbb hb hm
            rw [Hbde.out] at Mbd
            have XA0 := XA.out.cell 0
            have XA1 := XA.out.cell 1
            have XA2 := fun ob => (XA.out.alloc ob).cell 0
            have XA3 := fun ob => (XA.out.alloc ob).cell 1
            have XB0 := XB.out.cell 0
            have XB1 := XB.out.cell 1
            have XB2 := fun ob => (XB.out.alloc ob).cell 0
            have XB3 := fun ob => (XB.out.alloc ob).cell 1
            have XC0 := XC.out.cell 0
            have XC1 := XC.out.cell 1
            have XC2 := fun ob => (XC.out.alloc ob).cell 0
            have XC3 := fun ob => (XC.out.alloc ob).cell 1
            have Xab0 := Xab.out.cell 0
            have Xab1 := Xab.out.cell 1
            have Xab2 := fun ob => (Xab.out.alloc ob).cell 0
            have Xab3 := fun ob => (Xab.out.alloc ob).cell 1
            have Xct0 := Xct.out.cell 0
            have Xct1 := Xct.out.cell 1
            have Xct2 := fun ob => (Xct.out.alloc ob).cell 0
            have Xct3 := fun ob => (Xct.out.alloc ob).cell 1
            have Xd0 := Xd.out.cell 0
            have Xd1 := Xd.out.cell 1
            have Xd2 := fun ob => (Xd.out.alloc ob).cell 0
            have Xd3 := fun ob => (Xd.out.alloc ob).cell 1
            go_wp2_with fail
            have hal : Below W18.heap.size W18 (W18.alloc (.cells #[.int .i64 (P0 : Int), .slice o18 N c18] 24)) := ((Below.refl _ _).alloc (by first | exact Nat.le_refl _ | (simp; done) | (simp; omega)) _)
            refine (add_mx P0 N (by omega) (by omega) b bd Hb.out (fun i _ => Hbd.out i) p o18 cap' c18 (W18.alloc (.cells #[.int .i64 (P0 : Int), .slice o18 N c18] 24)) (HT.out.here hal) (MB.out.below hal) (Mbd.out.below hal)).mono ?_
            rintro e W19 ⟨o19, c19, rfl, hm, hb⟩
            have hbb : Below W18.heap.size W18 W19 := hal.trans (hb.mono hal.size)
            have Xbd := Lib.hid ((Box.new W18 #[.int .i64 (P0 : Int), .slice o18 N c18] 24).below hb (by simp))
            have Msum := Lib.hid (hm)
            have HB := Lib.hid (HB.out.trans (Joins.below_le hbb HB.out.size))
            have XA := Lib.hid (XA.out.below hbb XA.out.lt)
            have XB := Lib.hid (XB.out.below hbb XB.out.lt)
            have XC := Lib.hid (XC.out.below hbb XC.out.lt)
            have HT := Lib.hid (HT.out.here hbb)
            have MA := Lib.hid (MA.out.below hbb)
            have MB := Lib.hid (MB.out.below hbb)
            have HU := Lib.hid (HU.out.trans (Joins.below_le hbb HU.out.size))
            have MC := Lib.hid (MC.out.below hbb)
            have Mab := Lib.hid (Mab.out.below hbb)
            have Xab := Lib.hid (Xab.out.below hbb Xab.out.lt)
            have Mct := Lib.hid (Mct.out.below hbb)
            have Xct := Lib.hid (Xct.out.below hbb Xct.out.lt)
            have Md := Lib.hid (Md.out.below hbb)
            have Xd := Lib.hid (Xd.out.below hbb Xd.out.lt)
            have Mbd := Lib.hid (Mbd.out.below hbb)
            clear XA0 XA1 XA2 XA3 XB0 XB1 XB2 XB3 XC0 XC1 XC2 XC3 Xab0 Xab1 Xab2 Xab3 Xct0 Xct1 Xct2 Xct3 Xd0 Xd1 Xd2 Xd3
            clear hal hbb hb hm
            rw [Hsme.out] at Msum
            have XA0 := XA.out.cell 0
            have XA1 := XA.out.cell 1
            have XA2 := fun ob => (XA.out.alloc ob).cell 0
            have XA3 := fun ob => (XA.out.alloc ob).cell 1
            have XB0 := XB.out.cell 0
            have XB1 := XB.out.cell 1
            have XB2 := fun ob => (XB.out.alloc ob).cell 0
            have XB3 := fun ob => (XB.out.alloc ob).cell 1
            have XC0 := XC.out.cell 0
            have XC1 := XC.out.cell 1
            have XC2 := fun ob => (XC.out.alloc ob).cell 0
            have XC3 := fun ob => (XC.out.alloc ob).cell 1
            have Xab0 := Xab.out.cell 0
            have Xab1 := Xab.out.cell 1
            have Xab2 := fun ob => (Xab.out.alloc ob).cell 0
            have Xab3 := fun ob => (Xab.out.alloc ob).cell 1
            have Xct0 := Xct.out.cell 0
            have Xct1 := Xct.out.cell 1
            have Xct2 := fun ob => (Xct.out.alloc ob).cell 0
            have Xct3 := fun ob => (Xct.out.alloc ob).cell 1
            have Xd0 := Xd.out.cell 0
            have Xd1 := Xd.out.cell 1
            have Xd2 := fun ob => (Xd.out.alloc ob).cell 0
            have Xd3 := fun ob => (Xd.out.alloc ob).cell 1
            have Xbd0 := Xbd.out.cell 0
            have Xbd1 := Xbd.out.cell 1
            have Xbd2 := fun ob => (Xbd.out.alloc ob).cell 0
            have Xbd3 := fun ob => (Xbd.out.alloc ob).cell 1
            go_wp2_with fail
            have hal : Below W19.heap.size W19 (W19.alloc (.cells #[.int .i64 (P0 : Int), .slice o19 N c19] 24)) := ((Below.refl _ _).alloc (by first | exact Nat.le_refl _ | (simp; done) | (simp; omega)) _)
            refine (mul_mx N P0 K (by omega) (by omega) (by omega) a sm Hsm.out o o19 cap c19 (W19.alloc (.cells #[.int .i64 (P0 : Int), .slice o19 N c19] 24)) (HT.out.here hal) (MA.out.below hal) (Msum.out.below hal)).mono ?_
            rintro e W20 ⟨o20, c20, rfl, hm, hb⟩
            have hbb : Below W19.heap.size W19 W20 := hal.trans (hb.mono hal.size)
            have Xsum := Lib.hid ((Box.new W19 #[.int .i64 (P0 : Int), .slice o19 N c19] 24).below hb (by simp))
            have Mleft := Lib.hid (hm)
            have HB := Lib.hid (HB.out.trans (Joins.below_le hbb HB.out.size))
            have XA := Lib.hid (XA.out.below hbb XA.out.lt)
            have XB := Lib.hid (XB.out.below hbb XB.out.lt)
            have XC := Lib.hid (XC.out.below hbb XC.out.lt)
            have HT := Lib.hid (HT.out.here hbb)
            have MA := Lib.hid (MA.out.below hbb)
            have MB := Lib.hid (MB.out.below hbb)
            have HU := Lib.hid (HU.out.trans (Joins.below_le hbb HU.out.size))
            have MC := Lib.hid (MC.out.below hbb)
            have Mab := Lib.hid (Mab.out.below hbb)
            have Xab := Lib.hid (Xab.out.below hbb Xab.out.lt)
            have Mct := Lib.hid (Mct.out.below hbb)
            have Xct := Lib.hid (Xct.out.below hbb Xct.out.lt)
            have Md := Lib.hid (Md.out.below hbb)
            have Xd := Lib.hid (Xd.out.below hbb Xd.out.lt)
            have Mbd := Lib.hid (Mbd.out.below hbb)
            have Xbd := Lib.hid (Xbd.out.below hbb Xbd.out.lt)
            have Msum := Lib.hid (Msum.out.below hbb)
            clear XA0 XA1 XA2 XA3 XB0 XB1 XB2 XB3 XC0 XC1 XC2 XC3 Xab0 Xab1 Xab2 Xab3 Xct0 Xct1 Xct2 Xct3 Xd0 Xd1 Xd2 Xd3 Xbd0 Xbd1 Xbd2 Xbd3
            clear hal hbb hb hm
            have XA0 := XA.out.cell 0
            have XA1 := XA.out.cell 1
            have XA2 := fun ob => (XA.out.alloc ob).cell 0
            have XA3 := fun ob => (XA.out.alloc ob).cell 1
            have XB0 := XB.out.cell 0
            have XB1 := XB.out.cell 1
            have XB2 := fun ob => (XB.out.alloc ob).cell 0
            have XB3 := fun ob => (XB.out.alloc ob).cell 1
            have XC0 := XC.out.cell 0
            have XC1 := XC.out.cell 1
            have XC2 := fun ob => (XC.out.alloc ob).cell 0
            have XC3 := fun ob => (XC.out.alloc ob).cell 1
            have Xab0 := Xab.out.cell 0
            have Xab1 := Xab.out.cell 1
            have Xab2 := fun ob => (Xab.out.alloc ob).cell 0
            have Xab3 := fun ob => (Xab.out.alloc ob).cell 1
            have Xct0 := Xct.out.cell 0
            have Xct1 := Xct.out.cell 1
            have Xct2 := fun ob => (Xct.out.alloc ob).cell 0
            have Xct3 := fun ob => (Xct.out.alloc ob).cell 1
            have Xd0 := Xd.out.cell 0
            have Xd1 := Xd.out.cell 1
            have Xd2 := fun ob => (Xd.out.alloc ob).cell 0
            have Xd3 := fun ob => (Xd.out.alloc ob).cell 1
            have Xbd0 := Xbd.out.cell 0
            have Xbd1 := Xbd.out.cell 1
            have Xbd2 := fun ob => (Xbd.out.alloc ob).cell 0
            have Xbd3 := fun ob => (Xbd.out.alloc ob).cell 1
            have Xsum0 := Xsum.out.cell 0
            have Xsum1 := Xsum.out.cell 1
            have Xsum2 := fun ob => (Xsum.out.alloc ob).cell 0
            have Xsum3 := fun ob => (Xsum.out.alloc ob).cell 1
            go_wp2_with fail
            have hal : Below W20.heap.size W20 (W20.alloc (.cells #[.int .i64 (P0 : Int), .slice o20 K c20] 24)) := ((Below.refl _ _).alloc (by first | exact Nat.le_refl _ | (simp; done) | (simp; omega)) _)
            refine (mul_mx N P0 K (by omega) (by omega) (by omega) a bd (fun i _ => Hbd.out i) o o18 cap c18 (W20.alloc (.cells #[.int .i64 (P0 : Int), .slice o20 K c20] 24)) (HT.out.here hal) (MA.out.below hal) (Mbd.out.below hal)).mono ?_
            rintro e W21 ⟨o21, c21, rfl, hm, hb⟩
            have hbb : Below W20.heap.size W20 W21 := hal.trans (hb.mono hal.size)
            have Xleft := Lib.hid ((Box.new W20 #[.int .i64 (P0 : Int), .slice o20 K c20] 24).below hb (by simp))
            have Mabd := Lib.hid (hm)
            have HB := Lib.hid (HB.out.trans (Joins.below_le hbb HB.out.size))
            have XA := Lib.hid (XA.out.below hbb XA.out.lt)
            have XB := Lib.hid (XB.out.below hbb XB.out.lt)
            have XC := Lib.hid (XC.out.below hbb XC.out.lt)
            have HT := Lib.hid (HT.out.here hbb)
            have MA := Lib.hid (MA.out.below hbb)
            have MB := Lib.hid (MB.out.below hbb)
            have HU := Lib.hid (HU.out.trans (Joins.below_le hbb HU.out.size))
            have MC := Lib.hid (MC.out.below hbb)
            have Mab := Lib.hid (Mab.out.below hbb)
            have Xab := Lib.hid (Xab.out.below hbb Xab.out.lt)
            have Mct := Lib.hid (Mct.out.below hbb)
            have Xct := Lib.hid (Xct.out.below hbb Xct.out.lt)
            have Md := Lib.hid (Md.out.below hbb)
            have Xd := Lib.hid (Xd.out.below hbb Xd.out.lt)
            have Mbd := Lib.hid (Mbd.out.below hbb)
            have Xbd := Lib.hid (Xbd.out.below hbb Xbd.out.lt)
            have Msum := Lib.hid (Msum.out.below hbb)
            have Xsum := Lib.hid (Xsum.out.below hbb Xsum.out.lt)
            have Mleft := Lib.hid (Mleft.out.below hbb)
            clear XA0 XA1 XA2 XA3 XB0 XB1 XB2 XB3 XC0 XC1 XC2 XC3 Xab0 Xab1 Xab2 Xab3 Xct0 Xct1 Xct2 Xct3 Xd0 Xd1 Xd2 Xd3 Xbd0 Xbd1 Xbd2 Xbd3 Xsum0 Xsum1 Xsum2 Xsum3
            clear hal hbb hb hm
            have XA0 := XA.out.cell 0
            have XA1 := XA.out.cell 1
            have XA2 := fun ob => (XA.out.alloc ob).cell 0
            have XA3 := fun ob => (XA.out.alloc ob).cell 1
            have XB0 := XB.out.cell 0
            have XB1 := XB.out.cell 1
            have XB2 := fun ob => (XB.out.alloc ob).cell 0
            have XB3 := fun ob => (XB.out.alloc ob).cell 1
            have XC0 := XC.out.cell 0
            have XC1 := XC.out.cell 1
            have XC2 := fun ob => (XC.out.alloc ob).cell 0
            have XC3 := fun ob => (XC.out.alloc ob).cell 1
            have Xab0 := Xab.out.cell 0
            have Xab1 := Xab.out.cell 1
            have Xab2 := fun ob => (Xab.out.alloc ob).cell 0
            have Xab3 := fun ob => (Xab.out.alloc ob).cell 1
            have Xct0 := Xct.out.cell 0
            have Xct1 := Xct.out.cell 1
            have Xct2 := fun ob => (Xct.out.alloc ob).cell 0
            have Xct3 := fun ob => (Xct.out.alloc ob).cell 1
            have Xd0 := Xd.out.cell 0
            have Xd1 := Xd.out.cell 1
            have Xd2 := fun ob => (Xd.out.alloc ob).cell 0
            have Xd3 := fun ob => (Xd.out.alloc ob).cell 1
            have Xbd0 := Xbd.out.cell 0
            have Xbd1 := Xbd.out.cell 1
            have Xbd2 := fun ob => (Xbd.out.alloc ob).cell 0
            have Xbd3 := fun ob => (Xbd.out.alloc ob).cell 1
            have Xsum0 := Xsum.out.cell 0
            have Xsum1 := Xsum.out.cell 1
            have Xsum2 := fun ob => (Xsum.out.alloc ob).cell 0
            have Xsum3 := fun ob => (Xsum.out.alloc ob).cell 1
            have Xleft0 := Xleft.out.cell 0
            have Xleft1 := Xleft.out.cell 1
            have Xleft2 := fun ob => (Xleft.out.alloc ob).cell 0
            have Xleft3 := fun ob => (Xleft.out.alloc ob).cell 1
            go_wp2_with fail
            have hal : Below W21.heap.size W21 (W21.alloc (.cells #[.int .i64 (P0 : Int), .slice o21 K c21] 24)) := ((Below.refl _ _).alloc (by first | exact Nat.le_refl _ | (simp; done) | (simp; omega)) _)
            refine (add_mx P0 K (by omega) (by omega) _ _ (fun i _ => Hab.out i) (fun i _ => Habd.out i) o4 o21 c4 c21 (W21.alloc (.cells #[.int .i64 (P0 : Int), .slice o21 K c21] 24)) (HT.out.here hal) (Mab.out.below hal) (Mabd.out.below hal)).mono ?_
            rintro e W22 ⟨o22, c22, rfl, hm, hb⟩
            have hbb : Below W21.heap.size W21 W22 := hal.trans (hb.mono hal.size)
            have Xabd := Lib.hid ((Box.new W21 #[.int .i64 (P0 : Int), .slice o21 K c21] 24).below hb (by simp))
            have Mright := Lib.hid (hm)
            have HB := Lib.hid (HB.out.trans (Joins.below_le hbb HB.out.size))
            have XA := Lib.hid (XA.out.below hbb XA.out.lt)
            have XB := Lib.hid (XB.out.below hbb XB.out.lt)
            have XC := Lib.hid (XC.out.below hbb XC.out.lt)
            have HT := Lib.hid (HT.out.here hbb)
            have MA := Lib.hid (MA.out.below hbb)
            have MB := Lib.hid (MB.out.below hbb)
            have HU := Lib.hid (HU.out.trans (Joins.below_le hbb HU.out.size))
            have MC := Lib.hid (MC.out.below hbb)
            have Mab := Lib.hid (Mab.out.below hbb)
            have Xab := Lib.hid (Xab.out.below hbb Xab.out.lt)
            have Mct := Lib.hid (Mct.out.below hbb)
            have Xct := Lib.hid (Xct.out.below hbb Xct.out.lt)
            have Md := Lib.hid (Md.out.below hbb)
            have Xd := Lib.hid (Xd.out.below hbb Xd.out.lt)
            have Mbd := Lib.hid (Mbd.out.below hbb)
            have Xbd := Lib.hid (Xbd.out.below hbb Xbd.out.lt)
            have Msum := Lib.hid (Msum.out.below hbb)
            have Xsum := Lib.hid (Xsum.out.below hbb Xsum.out.lt)
            have Mleft := Lib.hid (Mleft.out.below hbb)
            have Xleft := Lib.hid (Xleft.out.below hbb Xleft.out.lt)
            have Mabd := Lib.hid (Mabd.out.below hbb)
            clear XA0 XA1 XA2 XA3 XB0 XB1 XB2 XB3 XC0 XC1 XC2 XC3 Xab0 Xab1 Xab2 Xab3 Xct0 Xct1 Xct2 Xct3 Xd0 Xd1 Xd2 Xd3 Xbd0 Xbd1 Xbd2 Xbd3 Xsum0 Xsum1 Xsum2 Xsum3 Xleft0 Xleft1 Xleft2 Xleft3
            clear hal hbb hb hm
            have XA0 := XA.out.cell 0
            have XA1 := XA.out.cell 1
            have XA2 := fun ob => (XA.out.alloc ob).cell 0
            have XA3 := fun ob => (XA.out.alloc ob).cell 1
            have XB0 := XB.out.cell 0
            have XB1 := XB.out.cell 1
            have XB2 := fun ob => (XB.out.alloc ob).cell 0
            have XB3 := fun ob => (XB.out.alloc ob).cell 1
            have XC0 := XC.out.cell 0
            have XC1 := XC.out.cell 1
            have XC2 := fun ob => (XC.out.alloc ob).cell 0
            have XC3 := fun ob => (XC.out.alloc ob).cell 1
            have Xab0 := Xab.out.cell 0
            have Xab1 := Xab.out.cell 1
            have Xab2 := fun ob => (Xab.out.alloc ob).cell 0
            have Xab3 := fun ob => (Xab.out.alloc ob).cell 1
            have Xct0 := Xct.out.cell 0
            have Xct1 := Xct.out.cell 1
            have Xct2 := fun ob => (Xct.out.alloc ob).cell 0
            have Xct3 := fun ob => (Xct.out.alloc ob).cell 1
            have Xd0 := Xd.out.cell 0
            have Xd1 := Xd.out.cell 1
            have Xd2 := fun ob => (Xd.out.alloc ob).cell 0
            have Xd3 := fun ob => (Xd.out.alloc ob).cell 1
            have Xbd0 := Xbd.out.cell 0
            have Xbd1 := Xbd.out.cell 1
            have Xbd2 := fun ob => (Xbd.out.alloc ob).cell 0
            have Xbd3 := fun ob => (Xbd.out.alloc ob).cell 1
            have Xsum0 := Xsum.out.cell 0
            have Xsum1 := Xsum.out.cell 1
            have Xsum2 := fun ob => (Xsum.out.alloc ob).cell 0
            have Xsum3 := fun ob => (Xsum.out.alloc ob).cell 1
            have Xleft0 := Xleft.out.cell 0
            have Xleft1 := Xleft.out.cell 1
            have Xleft2 := fun ob => (Xleft.out.alloc ob).cell 0
            have Xleft3 := fun ob => (Xleft.out.alloc ob).cell 1
            have Xabd0 := Xabd.out.cell 0
            have Xabd1 := Xabd.out.cell 1
            have Xabd2 := fun ob => (Xabd.out.alloc ob).cell 0
            have Xabd3 := fun ob => (Xabd.out.alloc ob).cell 1
            go_wp2_with fail
            have hal : Below W22.heap.size W22 (W22.alloc (.cells #[.int .i64 (P0 : Int), .slice o22 K c22] 24)) := ((Below.refl _ _).alloc (by first | exact Nat.le_refl _ | (simp; done) | (simp; omega)) _)
            refine (awake_ok (W22.alloc (.cells #[.int .i64 (P0 : Int), .slice o22 K c22] 24)) (HT.out.here hal)).mono ?_
            rintro e W23 ⟨rfl, hb⟩
            have hbb : Below W22.heap.size W22 W23 := hal.trans (hb.mono hal.size)
            have Xright := Lib.hid ((Box.new W22 #[.int .i64 (P0 : Int), .slice o22 K c22] 24).below hb (by simp))
            have HB := Lib.hid (HB.out.trans (Joins.below_le hbb HB.out.size))
            have XA := Lib.hid (XA.out.below hbb XA.out.lt)
            have XB := Lib.hid (XB.out.below hbb XB.out.lt)
            have XC := Lib.hid (XC.out.below hbb XC.out.lt)
            have HT := Lib.hid (HT.out.here hbb)
            have MA := Lib.hid (MA.out.below hbb)
            have MB := Lib.hid (MB.out.below hbb)
            have HU := Lib.hid (HU.out.trans (Joins.below_le hbb HU.out.size))
            have MC := Lib.hid (MC.out.below hbb)
            have Mab := Lib.hid (Mab.out.below hbb)
            have Xab := Lib.hid (Xab.out.below hbb Xab.out.lt)
            have Mct := Lib.hid (Mct.out.below hbb)
            have Xct := Lib.hid (Xct.out.below hbb Xct.out.lt)
            have Md := Lib.hid (Md.out.below hbb)
            have Xd := Lib.hid (Xd.out.below hbb Xd.out.lt)
            have Mbd := Lib.hid (Mbd.out.below hbb)
            have Xbd := Lib.hid (Xbd.out.below hbb Xbd.out.lt)
            have Msum := Lib.hid (Msum.out.below hbb)
            have Xsum := Lib.hid (Xsum.out.below hbb Xsum.out.lt)
            have Mleft := Lib.hid (Mleft.out.below hbb)
            have Xleft := Lib.hid (Xleft.out.below hbb Xleft.out.lt)
            have Mabd := Lib.hid (Mabd.out.below hbb)
            have Xabd := Lib.hid (Xabd.out.below hbb Xabd.out.lt)
            have Mright := Lib.hid (Mright.out.below hbb)
            clear XA0 XA1 XA2 XA3 XB0 XB1 XB2 XB3 XC0 XC1 XC2 XC3 Xab0 Xab1 Xab2 Xab3 Xct0 Xct1 Xct2 Xct3 Xd0 Xd1 Xd2 Xd3 Xbd0 Xbd1 Xbd2 Xbd3 Xsum0 Xsum1 Xsum2 Xsum3 Xleft0 Xleft1 Xleft2 Xleft3 Xabd0 Xabd1 Xabd2 Xabd3
            clear hal hbb hb
            have XA0 := XA.out.cell 0
            have XA1 := XA.out.cell 1
            have XA2 := fun ob => (XA.out.alloc ob).cell 0
            have XA3 := fun ob => (XA.out.alloc ob).cell 1
            have XB0 := XB.out.cell 0
            have XB1 := XB.out.cell 1
            have XB2 := fun ob => (XB.out.alloc ob).cell 0
            have XB3 := fun ob => (XB.out.alloc ob).cell 1
            have XC0 := XC.out.cell 0
            have XC1 := XC.out.cell 1
            have XC2 := fun ob => (XC.out.alloc ob).cell 0
            have XC3 := fun ob => (XC.out.alloc ob).cell 1
            have Xab0 := Xab.out.cell 0
            have Xab1 := Xab.out.cell 1
            have Xab2 := fun ob => (Xab.out.alloc ob).cell 0
            have Xab3 := fun ob => (Xab.out.alloc ob).cell 1
            have Xct0 := Xct.out.cell 0
            have Xct1 := Xct.out.cell 1
            have Xct2 := fun ob => (Xct.out.alloc ob).cell 0
            have Xct3 := fun ob => (Xct.out.alloc ob).cell 1
            have Xd0 := Xd.out.cell 0
            have Xd1 := Xd.out.cell 1
            have Xd2 := fun ob => (Xd.out.alloc ob).cell 0
            have Xd3 := fun ob => (Xd.out.alloc ob).cell 1
            have Xbd0 := Xbd.out.cell 0
            have Xbd1 := Xbd.out.cell 1
            have Xbd2 := fun ob => (Xbd.out.alloc ob).cell 0
            have Xbd3 := fun ob => (Xbd.out.alloc ob).cell 1
            have Xsum0 := Xsum.out.cell 0
            have Xsum1 := Xsum.out.cell 1
            have Xsum2 := fun ob => (Xsum.out.alloc ob).cell 0
            have Xsum3 := fun ob => (Xsum.out.alloc ob).cell 1
            have Xleft0 := Xleft.out.cell 0
            have Xleft1 := Xleft.out.cell 1
            have Xleft2 := fun ob => (Xleft.out.alloc ob).cell 0
            have Xleft3 := fun ob => (Xleft.out.alloc ob).cell 1
            have Xabd0 := Xabd.out.cell 0
            have Xabd1 := Xabd.out.cell 1
            have Xabd2 := fun ob => (Xabd.out.alloc ob).cell 0
            have Xabd3 := fun ob => (Xabd.out.alloc ob).cell 1
            have Xright0 := Xright.out.cell 0
            have Xright1 := Xright.out.cell 1
            have Xright2 := fun ob => (Xright.out.alloc ob).cell 0
            have Xright3 := fun ob => (Xright.out.alloc ob).cell 1
            go_wp2_with fail
            have hal : Below W23.heap.size W23 W23 := (Below.refl _ _)
            refine (same_at P0 K (by omega) (by omega) _ _ (fun i _ => He4.out i) o20 o22 c20 c22 W23 (Mleft.out.below hal) (Mright.out.below hal)).mono ?_
            rintro e W24 ⟨rfl, hb⟩
            have hbb : Below W23.heap.size W23 W24 := hal.trans (hb.mono hal.size)
            have HB := Lib.hid (HB.out.trans (Joins.below_le hbb HB.out.size))
            have XA := Lib.hid (XA.out.below hbb XA.out.lt)
            have XB := Lib.hid (XB.out.below hbb XB.out.lt)
            have XC := Lib.hid (XC.out.below hbb XC.out.lt)
            have HT := Lib.hid (HT.out.here hbb)
            have MA := Lib.hid (MA.out.below hbb)
            have MB := Lib.hid (MB.out.below hbb)
            have HU := Lib.hid (HU.out.trans (Joins.below_le hbb HU.out.size))
            have MC := Lib.hid (MC.out.below hbb)
            have Mab := Lib.hid (Mab.out.below hbb)
            have Xab := Lib.hid (Xab.out.below hbb Xab.out.lt)
            have Mct := Lib.hid (Mct.out.below hbb)
            have Xct := Lib.hid (Xct.out.below hbb Xct.out.lt)
            have Md := Lib.hid (Md.out.below hbb)
            have Xd := Lib.hid (Xd.out.below hbb Xd.out.lt)
            have Mbd := Lib.hid (Mbd.out.below hbb)
            have Xbd := Lib.hid (Xbd.out.below hbb Xbd.out.lt)
            have Msum := Lib.hid (Msum.out.below hbb)
            have Xsum := Lib.hid (Xsum.out.below hbb Xsum.out.lt)
            have Mleft := Lib.hid (Mleft.out.below hbb)
            have Xleft := Lib.hid (Xleft.out.below hbb Xleft.out.lt)
            have Mabd := Lib.hid (Mabd.out.below hbb)
            have Xabd := Lib.hid (Xabd.out.below hbb Xabd.out.lt)
            have Mright := Lib.hid (Mright.out.below hbb)
            have Xright := Lib.hid (Xright.out.below hbb Xright.out.lt)
            clear XA0 XA1 XA2 XA3 XB0 XB1 XB2 XB3 XC0 XC1 XC2 XC3 Xab0 Xab1 Xab2 Xab3 Xct0 Xct1 Xct2 Xct3 Xd0 Xd1 Xd2 Xd3 Xbd0 Xbd1 Xbd2 Xbd3 Xsum0 Xsum1 Xsum2 Xsum3 Xleft0 Xleft1 Xleft2 Xleft3 Xabd0 Xabd1 Xabd2 Xabd3 Xright0 Xright1 Xright2 Xright3
            clear hal hbb hb
            go_wp2_with fail
            go_ret
            exact ⟨rfl, HB.out⟩
          · have g1 : ((P0 : Int) != (L : Int)) = true := by rw [bne_iff_ne]; omega
            have XA0 := XA.out.cell 0
            have XA1 := XA.out.cell 1
            have XA2 := fun ob => (XA.out.alloc ob).cell 0
            have XA3 := fun ob => (XA.out.alloc ob).cell 1
            have XB0 := XB.out.cell 0
            have XB1 := XB.out.cell 1
            have XB2 := fun ob => (XB.out.alloc ob).cell 0
            have XB3 := fun ob => (XB.out.alloc ob).cell 1
            have XC0 := XC.out.cell 0
            have XC1 := XC.out.cell 1
            have XC2 := fun ob => (XC.out.alloc ob).cell 0
            have XC3 := fun ob => (XC.out.alloc ob).cell 1
            have HA := Lib.hid (awake_ok W3 HT.out)
            go_wp2_with fail
            refine HA.out.mono ?_
            rintro e w' ⟨rfl, hb⟩
            have HE := Lib.hid (HB.out.trans (hb.mono HB.out.size))
            clear hb
            go_wp2_with fail
            go_ret
            exact ⟨rfl, HE.out⟩
        · have g1 : ((N : Int) != (M : Int)) = true := by rw [bne_iff_ne]; omega
          have XA0 := XA.out.cell 0
          have XA1 := XA.out.cell 1
          have XA2 := fun ob => (XA.out.alloc ob).cell 0
          have XA3 := fun ob => (XA.out.alloc ob).cell 1
          have XB0 := XB.out.cell 0
          have XB1 := XB.out.cell 1
          have XB2 := fun ob => (XB.out.alloc ob).cell 0
          have XB3 := fun ob => (XB.out.alloc ob).cell 1
          have XC0 := XC.out.cell 0
          have XC1 := XC.out.cell 1
          have XC2 := fun ob => (XC.out.alloc ob).cell 0
          have XC3 := fun ob => (XC.out.alloc ob).cell 1
          have HA := Lib.hid (awake_ok W3 HT.out)
          go_wp2_with fail
          refine HA.out.mono ?_
          rintro e w' ⟨rfl, hb⟩
          have HE := Lib.hid (HB.out.trans (hb.mono HB.out.size))
          clear hb
          go_wp2_with fail
          go_ret
          exact ⟨rfl, HE.out⟩
      · have g1 : (v2 != 0) = true := by rw [bne_iff_ne]; exact h2
        have XA0 := XA.out.cell 0
        have XA1 := XA.out.cell 1
        have XA2 := fun ob => (XA.out.alloc ob).cell 0
        have XA3 := fun ob => (XA.out.alloc ob).cell 1
        have XB0 := XB.out.cell 0
        have XB1 := XB.out.cell 1
        have XB2 := fun ob => (XB.out.alloc ob).cell 0
        have XB3 := fun ob => (XB.out.alloc ob).cell 1
        have XC0 := XC.out.cell 0
        have XC1 := XC.out.cell 1
        have XC2 := fun ob => (XC.out.alloc ob).cell 0
        have XC3 := fun ob => (XC.out.alloc ob).cell 1
        go_wp2_with fail
        have hal : Below W2.heap.size W2 W2 := (Below.refl _ _)
        refine (HV2.out _ HU.out).mono ?_
        rintro e W3 ⟨rfl, hb⟩
        have hbb : Below W2.heap.size W2 W3 := hal.trans (hb.mono hal.size)
        have HB := Lib.hid (HB.out.trans (Joins.below_le hbb HB.out.size))
        have XA := Lib.hid (XA.out.below hbb XA.out.lt)
        have XB := Lib.hid (XB.out.below hbb XB.out.lt)
        have XC := Lib.hid (XC.out.below hbb XC.out.lt)
        have HT := Lib.hid (HT.out.here hbb)
        have MA := Lib.hid (MA.out.below hbb)
        have MB := Lib.hid (MB.out.below hbb)
        have HU := Lib.hid (HU.out.trans (Joins.below_le hbb HU.out.size))
        clear XA0 XA1 XA2 XA3 XB0 XB1 XB2 XB3 XC0 XC1 XC2 XC3
        clear hal hbb hb
        have HA := Lib.hid (awake_ok W3 HT.out)
        go_wp2_with fail
        refine HA.out.mono ?_
        rintro e w' ⟨rfl, hb⟩
        have HE := Lib.hid (HB.out.trans (hb.mono HB.out.size))
        clear hb
        go_wp2_with fail
        go_ret
        exact ⟨rfl, HE.out⟩
    · have g1 : (v != 0) = true := by rw [bne_iff_ne]; exact h0
      have XA0 := XA.out.cell 0
      have XA1 := XA.out.cell 1
      have XA2 := fun ob => (XA.out.alloc ob).cell 0
      have XA3 := fun ob => (XA.out.alloc ob).cell 1
      have XB0 := XB.out.cell 0
      have XB1 := XB.out.cell 1
      have XB2 := fun ob => (XB.out.alloc ob).cell 0
      have XB3 := fun ob => (XB.out.alloc ob).cell 1
      have XC0 := XC.out.cell 0
      have XC1 := XC.out.cell 1
      have XC2 := fun ob => (XC.out.alloc ob).cell 0
      have XC3 := fun ob => (XC.out.alloc ob).cell 1
      go_wp2_with fail
      have hal : Below W1.heap.size W1 W1 := (Below.refl _ _)
      refine (HV.out).mono ?_
      rintro e W2 ⟨rfl, hb⟩
      have hbb : Below W1.heap.size W1 W2 := hal.trans (hb.mono hal.size)
      have HB := Lib.hid (HB.out.trans (Joins.below_le hbb HB.out.size))
      have XA := Lib.hid (XA.out.below hbb XA.out.lt)
      have XB := Lib.hid (XB.out.below hbb XB.out.lt)
      have XC := Lib.hid (XC.out.below hbb XC.out.lt)
      have HT := Lib.hid (HT.out.here hbb)
      clear XA0 XA1 XA2 XA3 XB0 XB1 XB2 XB3 XC0 XC1 XC2 XC3
      clear hal hbb hb
      have HA := Lib.hid (awake_ok W2 HT.out)
      go_wp2_with fail
      refine HA.out.mono ?_
      rintro e w' ⟨rfl, hb⟩
      have HE := Lib.hid (HB.out.trans (hb.mono HB.out.size))
      clear hb
      go_wp2_with fail
      go_ret
      exact ⟨rfl, HE.out⟩

end Go.Proofs.YtbefkngeffpokaaDoor
