/- Few, few, checkPair, Both. -/
import Derived.Test.YtbefkngeffpokaaDoorMxH
import Derived.WalkKit
import Derived.WalkSpells
import Derived.WalkLawsBesides
import Derived.Handy
import Derived.Deep.QuietTactic
import Derived.BigQuiet
import Derived.Outline
import Derived.Laws.BitsAllLaws
import Derived.IntWalk
import Derived.Lib.SmallJoins
import Derived.Lib.Hide
import Derived.Deep.DeepCutAuto
import Derived.LoopTactic
import Derived.Deep.RegionWith
import Derived.Laws.CopyOwn
import Derived.Maps.OwnOps
import Derived.Maps.OwnSet
import Derived.Laws.OwnMore
import Derived.Maps.AppendAt
import Derived.RangeFuncNested
import Derived.RangeFuncBound
import Derived.RangeFuncCalls
import Derived.RangeFuncLeaves
import Derived.RangeFuncBox
import Derived.RangeFuncFrom
import Derived.Shelf.Abstract
import Derived.Shelf.RegionOpen
import Derived.OwnWalkIn
import Derived.TacticsInMore
import Derived.LoopNIn
import Derived.LoopIn
import Derived.Deep.RegionHeld3
import Derived.RegionTactic
import Derived.ChangeAlike
namespace Go.Proofs.YtbefkngeffpokaaDoor
set_option linter.unusedVariables false
set_option linter.unusedSimpArgs false
open Go.RowKit


/-- What Few says where it says yes. -/
def FewP (C : Int) (K : Nat) : Prop := (C < 0 ∨ 4096 < C ∨ 4096 < K) ∨ (K ≤ 14 ∧ C ≤ 14 ∧ 0 ≤ C)
def FewRes (C : Int) (K : Nat) (w : World) (e : Ending) (w' : World) : Prop := ∃ r, e = .returned (.bool r) ∧ (r = true → FewP C K) ∧ Below w.heap.size w w'
set_option maxHeartbeats 2000000 in
theorem few_one (C : Int) (K : Nat) (o : Option Addr) (cap : Nat) (oc : Nat → Option Addr) (nc cc : Nat → Nat) (xc : Nat → Nat → Int) (w : World) (hL : Lv w o K oc nc cc xc) :
    Calls Tryd.prog 42 #[mv C o K cap] w (FewRes C K w) := by
  have hbx : Below w.heap.size w (w.alloc (.cells #[.int .i64 C, .slice o K cap] 24)) := (Below.refl _ _).alloc (Nat.le_refl _) _
  have HL := Lib.hid (hL.below hbx)
  have HB := Lib.hid hbx
  clear hL hbx
  unfold mv
  by_cases hK : 4096 < K
  · have k1 : (4096 : Int) < (K : Int) := by omega
    have k2 : decide (4096 < K) = true := decide_eq_true hK
    go_enter Tryd.func42, Tryd.ntmps42
    go_wp2_with fail
    go_ret
    exact ⟨true, rfl, fun _ => .inl (.inr (.inr hK)), HB.out⟩
  · have k1 : ¬ (4096 : Int) < (K : Int) := by omega
    have k2 : decide (4096 < K) = false := decide_eq_false hK
    by_cases h1 : C < 0
    · go_enter Tryd.func42, Tryd.ntmps42
      go_wp2_with fail
      go_ret
      exact ⟨true, rfl, fun _ => .inl (.inl h1), HB.out⟩
    · by_cases h2 : 4096 < C
      · go_enter Tryd.func42, Tryd.ntmps42
        go_wp2_with fail
        go_ret
        exact ⟨true, rfl, fun _ => .inl (.inr (.inl h2)), HB.out⟩
      · go_enter Tryd.func42, Tryd.ntmps42
        go_wp2_with fail
        go_loop [3] (fun j => ∃ c : Nat, c ≤ K ∧ c ≤ 20 ∧ j = .int .i64 (c : Int)) (fun j => 20 - (intOf j).toNat)
        case atStart => exact ⟨0, by omega, by omega, by first | trivial | rfl⟩
        case round =>
          obtain ⟨c, hc, h20, rfl⟩ := hrel
          by_cases hlt : c < K ∧ c < 20
          · have hc1 : (c : Int) < (K : Int) := by omega
            have hc2 : decide (c < K) = true := decide_eq_true hlt.1
            have hc3 : (c : Int) < 20 := by omega
            have hc4 : decide (c < 20) = true := decide_eq_true hlt.2
            obtain ⟨b, off, rfl, hb, hcl⟩ := HL.out (by omega)
            obtain ⟨e1, _⟩ := hcl c hlt.1
            obtain ⟨oo, ho⟩ : ∃ x, oc c = x := ⟨_, rfl⟩
            obtain ⟨n1, hm⟩ : ∃ x, nc c = x := ⟨_, rfl⟩
            obtain ⟨kk, hk⟩ : ∃ x, cc c = x := ⟨_, rfl⟩
            rw [ho, hm, hk] at e1
            clear hcl ho hm hk
            by_cases hn : 20 < n1
            · have hn1 : (20 : Int) < (n1 : Int) := by omega
              clear hlt
              go_wp2_with fail
              go_ret
              exact ⟨false, rfl, (fun h => by cases h), HB.out⟩
            · have hn1 : ¬ (20 : Int) < (n1 : Int) := by omega
              obtain ⟨hlt1, hlt2⟩ := hlt
              go_wp2_with fail
              go_round
              case rel => exact ⟨c + 1, by omega, by omega, by go_num⟩
              case measure => simp [intOf]; omega
          · by_cases h3 : c < K
            · have hc1 : (c : Int) < (K : Int) := by omega
              have hc2 : decide (c < K) = true := decide_eq_true h3
              have hc3 : ¬ (c : Int) < 20 := by omega
              have hc4 : decide (c < 20) = false := decide_eq_false (by omega)
              have k14 : ¬ (K : Int) ≤ 14 := by omega
              have k15 : decide (K ≤ 14) = false := decide_eq_false (by omega)
              clear hlt
              go_wp2_with fail
              go_ret
              exact ⟨false, rfl, (fun h => by cases h), HB.out⟩
            · have hc1 : ¬ (c : Int) < (K : Int) := by omega
              have hc2 : decide (c < K) = false := decide_eq_false h3
              clear hlt
              by_cases h14 : K ≤ 14
              · have k14 : (K : Int) ≤ 14 := by omega
                have k15 : decide (K ≤ 14) = true := decide_eq_true h14
                by_cases hC14 : C ≤ 14
                · have k16 : decide (C ≤ 14) = true := decide_eq_true hC14
                  go_wp2_with fail
                  go_ret
                  exact ⟨true, rfl, fun _ => .inr ⟨h14, hC14, by omega⟩, HB.out⟩
                · have k16 : decide (C ≤ 14) = false := decide_eq_false hC14
                  go_wp2_with fail
                  go_ret
                  exact ⟨false, rfl, (fun h => by cases h), HB.out⟩
              · have k14 : ¬ (K : Int) ≤ 14 := by omega
                have k15 : decide (K ≤ 14) = false := decide_eq_false h14
                go_wp2_with fail
                go_ret
                exact ⟨false, rfl, (fun h => by cases h), HB.out⟩
/-- n matrices, one behind the other. -/
structure Mats (w : World) (b n : Nat) (C : Nat → Int) (o : Nat → Option Addr) (K cap : Nat → Nat) : Prop where
  lt : b < w.heap.size
  c0 : ∀ c, c < n → w.cell? ⟨b, c * 2, none⟩ = some (.int .i64 (C c))
  c1 : ∀ c, c < n → w.cell? ⟨b, c * 2 + 1, none⟩ = some (.slice (o c) (K c) (cap c))
set_option maxHeartbeats 2000000 in
theorem few_all (n : Nat) (hn : n ≤ 10) (b : Nat) (C : Nat → Int) (o : Nat → Option Addr) (K cap : Nat → Nat) (w : World) (hM : Mats w b n C o K cap)
    (hF : ∀ c, c < n → ∀ W, Below w.heap.size w W → Calls Tryd.prog 42 #[mv (C c) (o c) (K c) (cap c)] W (FewRes (C c) (K c) W)) :
    Calls Tryd.prog 12 #[.slice (some ⟨b, 0, none⟩) n n] w fun e w' => (∃ r, e = .returned (.bool r) ∧ (r = true → ∀ c, c < n → FewP (C c) (K c))) ∧ Below w.heap.size w w' := by
  have HM := Lib.hid hM
  have HF := Lib.hid hF
  clear hM hF
  go_enter Tryd.func12, Tryd.ntmps12
  go_wp2_with fail
  go_loopw [7] (fun j wr => ∃ c : Nat, c ≤ n ∧ j = .int .i64 (c : Int) ∧ (∀ d, d < c → FewP (C d) (K d)) ∧ Below w.heap.size w wr) (fun j _ => n - (intOf j).toNat)
  case atStart => exact ⟨0, by omega, by first | trivial | rfl, fun d h => absurd h (Nat.not_lt_zero _), Below.refl _ _⟩
  case round =>
    obtain ⟨c, hc, rfl, hall, hbe⟩ := hrel
    have HAll := Lib.hid hall
    have HBe := Lib.hid hbe
    by_cases hlt : c < n
    · have hc1 : (c : Int) < (n : Int) := by omega
      have e0 := (hbe.cell (p := ⟨b, c * 2, none⟩) HM.out.lt).trans (HM.out.c0 c hlt)
      have e1 := (hbe.cell (p := ⟨b, c * 2 + 1, none⟩) HM.out.lt).trans (HM.out.c1 c hlt)
      have hbx : Below w.heap.size w (wr.alloc (.cells #[.int .i64 (C c), .slice (o c) (K c) (cap c)] 24)) := hbe.alloc hbe.size _
      have HFc := Lib.hid (HF.out c hlt _ hbx)
      have HBx := Lib.hid hbx
      obtain ⟨Cc, hC⟩ : ∃ x, C c = x := ⟨_, rfl⟩
      obtain ⟨oo, ho⟩ : ∃ x, o c = x := ⟨_, rfl⟩
      obtain ⟨kk, hk⟩ : ∃ x, K c = x := ⟨_, rfl⟩
      obtain ⟨pp, hp⟩ : ∃ x, cap c = x := ⟨_, rfl⟩
      rw [hC, ho, hk, hp] at HFc HBx
      rw [hC] at e0
      rw [ho, hk, hp] at e1
      have HCC := Lib.hid hC
      have HKK := Lib.hid hk
      unfold mv at HFc
      clear hall hbe hC ho hk hp hbx
      go_wp2_with fail
      refine HFc.out.mono ?_
      rintro e w' ⟨r, rfl, hr, hb2⟩
      have HR := Lib.hid hr
      have HB2 := Lib.hid (HBx.out.trans (Joins.below_le hb2 HBx.out.size))
      clear hr hb2
      cases r with
      | true =>
        go_wp2_with fail
        go_roundw
        case rel =>
          refine ⟨c + 1, by omega, by go_num, fun d hd => ?_, HB2.out⟩
          by_cases e : d = c
          · rw [e, HCC.out, HKK.out]; exact HR.out (by first | trivial | rfl)
          · exact HAll.out d (by omega)
        case measure => simp [intOf]; omega
      | false =>
        go_wp2_with fail
        go_ret
        exact ⟨⟨false, rfl, fun h => by cases h⟩, HB2.out⟩
    · have e : c = n := by omega
      subst e
      clear hlt hall hbe
      go_wp2_with fail
      go_ret
      exact ⟨⟨true, rfl, fun _ => HAll.out⟩, HBe.out⟩
/-- The number of the error of two matrices. -/
def two (c d : Int) : Int := if c ≠ 0 then c else d
theorem pair_any (C D : Int) (K M : Nat) (o p : Option Addr) (cap cap' : Nat) (oc od : Nat → Option Addr) (nc cc nd cd : Nat → Nat) (hnc : ∀ c, c < K → nc c ≤ 1000000000) (hnd : ∀ c, c < M → nd c ≤ 1000000000) (xc xd : Nat → Nat → Int) (w : World) (hL : Lv w o K oc nc cc xc) (hL' : Lv w p M od nd cd xd) :
    Calls Tryd.prog 51 #[mv C o K cap, mv D p M cap'] w fun e w' => e = .returned (.int .i64 (two (mcode C K nc xc) (mcode D M nd xd))) ∧ Below w.heap.size w w' := by
  have hb0 : Below w.heap.size w ((w.alloc (.cells #[.int .i64 C, .slice o K cap] 24)).alloc (.cells #[.int .i64 D, .slice p M cap'] 24)) := ((Below.refl _ _).alloc (Nat.le_refl _) _).alloc (by simp) _
  have HB := Lib.hid hb0
  have H1 := Lib.hid (check_any C K o cap oc nc cc hnc xc _ (hL.below hb0))
  have H2 := Lib.hid (fun W (hb : Below w.heap.size w W) => check_any D M p cap' od nd cd hnd xd W (hL'.below hb))
  have e1 : ((w.alloc (.cells #[.int .i64 C, .slice o K cap] 24)).alloc (.cells #[.int .i64 D, .slice p M cap'] 24)).heap.size = w.heap.size + 2 := by simp
  have hd : Box ((w.alloc (.cells #[.int .i64 C, .slice o K cap] 24)).alloc (.cells #[.int .i64 D, .slice p M cap'] 24)) (w.heap.size + 1) #[.int .i64 D, .slice p M cap'] 24 := by
    have := Box.new (w.alloc (.cells #[.int .i64 C, .slice o K cap] 24)) #[.int .i64 D, .slice p M cap'] 24
    rwa [World.size_alloc] at this
  have HD := Lib.hid hd
  have HE := Lib.hid e1
  unfold two mv
  unfold mv at H1 H2
  obtain ⟨r1, hr1⟩ : ∃ r, mcode C K nc xc = r := ⟨_, rfl⟩
  obtain ⟨r2, hr2⟩ : ∃ r, mcode D M nd xd = r := ⟨_, rfl⟩
  rw [hr1, hr2]
  rw [hr1] at H1
  rw [hr2] at H2
  clear hnc hnd hL hL' hb0 hr1 hr2 hd e1
  by_cases h0 : r1 = 0
  · rw [if_neg (by simp [h0])]
    subst h0
    go_enter Tryd.func51, Tryd.ntmps51
    go_wp2_with fail
    refine H1.out.mono ?_
    rintro e W1 ⟨rfl, hb1⟩
    have hd1 := HD.out.below hb1 (by rw [HE.out]; omega)
    have q0 := hd1.cell 0
    have q1 := hd1.cell 1
    have HB1 := Lib.hid (HB.out.trans (Joins.below_le hb1 HB.out.size))
    clear hb1 hd1
    go_wp2_with fail
    refine (H2.out _ HB1.out).mono ?_
    rintro e W2 ⟨rfl, hb2⟩
    have HB2 := Lib.hid (HB1.out.trans (Joins.below_le hb2 HB1.out.size))
    clear hb2
    go_wp2_with fail
    go_ret
    exact ⟨rfl, HB2.out⟩
  · rw [if_pos h0]
    have g1 : (r1 != 0) = true := by rw [bne_iff_ne]; exact h0
    clear h0
    go_enter Tryd.func51, Tryd.ntmps51
    go_wp2_with fail
    refine H1.out.mono ?_
    rintro e W1 ⟨rfl, hb1⟩
    have HB1 := Lib.hid (HB.out.trans (Joins.below_le hb1 HB.out.size))
    clear hb1
    go_wp2_with fail
    go_ret
    exact ⟨rfl, HB1.out⟩
theorem rboth_any (C D : Int) (K M : Nat) (o p : Option Addr) (cap cap' : Nat) (oc od : Nat → Option Addr) (nc cc nd cd : Nat → Nat) (hnc : ∀ c, c < K → nc c ≤ 1000000000) (hnd : ∀ c, c < M → nd c ≤ 1000000000) (xc xd : Nat → Nat → Int) (w : World) (hL : Lv w o K oc nc cc xc) (hL' : Lv w p M od nd cd xd) :
    Calls Tryd.prog 36 #[mv C o K cap, mv D p M cap'] w fun e w' => e = .returned (.int .i64 (two (mcode C K nc xc) (mcode D M nd xd))) ∧ Below w.heap.size w w' := by
  have hb0 : Below w.heap.size w ((w.alloc (.cells #[.int .i64 C, .slice o K cap] 24)).alloc (.cells #[.int .i64 D, .slice p M cap'] 24)) := ((Below.refl _ _).alloc (Nat.le_refl _) _).alloc (by simp) _
  have HB := Lib.hid hb0
  have H1 := Lib.hid (rcheck_any C K o cap oc nc cc hnc xc _ (hL.below hb0))
  have H2 := Lib.hid (fun W (hb : Below w.heap.size w W) => rcheck_any D M p cap' od nd cd hnd xd W (hL'.below hb))
  have e1 : ((w.alloc (.cells #[.int .i64 C, .slice o K cap] 24)).alloc (.cells #[.int .i64 D, .slice p M cap'] 24)).heap.size = w.heap.size + 2 := by simp
  have hd : Box ((w.alloc (.cells #[.int .i64 C, .slice o K cap] 24)).alloc (.cells #[.int .i64 D, .slice p M cap'] 24)) (w.heap.size + 1) #[.int .i64 D, .slice p M cap'] 24 := by
    have := Box.new (w.alloc (.cells #[.int .i64 C, .slice o K cap] 24)) #[.int .i64 D, .slice p M cap'] 24
    rwa [World.size_alloc] at this
  have HD := Lib.hid hd
  have HE := Lib.hid e1
  unfold two mv
  unfold mv at H1 H2
  obtain ⟨r1, hr1⟩ : ∃ r, mcode C K nc xc = r := ⟨_, rfl⟩
  obtain ⟨r2, hr2⟩ : ∃ r, mcode D M nd xd = r := ⟨_, rfl⟩
  rw [hr1, hr2]
  rw [hr1] at H1
  rw [hr2] at H2
  clear hnc hnd hL hL' hb0 hr1 hr2 hd e1
  by_cases h0 : r1 = 0
  · rw [if_neg (by simp [h0])]
    subst h0
    go_enter Tryd.func36, Tryd.ntmps36
    go_wp2_with fail
    refine H1.out.mono ?_
    rintro e W1 ⟨rfl, hb1⟩
    have hd1 := HD.out.below hb1 (by rw [HE.out]; omega)
    have q0 := hd1.cell 0
    have q1 := hd1.cell 1
    have HB1 := Lib.hid (HB.out.trans (Joins.below_le hb1 HB.out.size))
    clear hb1 hd1
    go_wp2_with fail
    refine (H2.out _ HB1.out).mono ?_
    rintro e W2 ⟨rfl, hb2⟩
    have HB2 := Lib.hid (HB1.out.trans (Joins.below_le hb2 HB1.out.size))
    clear hb2
    go_wp2_with fail
    go_ret
    exact ⟨rfl, HB2.out⟩
  · rw [if_pos h0]
    have g1 : (r1 != 0) = true := by rw [bne_iff_ne]; exact h0
    clear h0
    go_enter Tryd.func36, Tryd.ntmps36
    go_wp2_with fail
    refine H1.out.mono ?_
    rintro e W1 ⟨rfl, hb1⟩
    have HB1 := Lib.hid (HB.out.trans (Joins.below_le hb1 HB.out.size))
    clear hb1
    go_wp2_with fail
    go_ret
    exact ⟨rfl, HB1.out⟩

end Go.Proofs.YtbefkngeffpokaaDoor
