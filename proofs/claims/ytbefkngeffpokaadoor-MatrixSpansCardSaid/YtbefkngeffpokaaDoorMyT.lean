/- Few matrices, with their rows; what both sides say of them. -/
import Derived.Test.YtbefkngeffpokaaDoorMxX
import Derived.Test.YtbefkngeffpokaaDoorMxY
import Derived.Test.YtbefkngeffpokaaDoorMyQ
import Derived.WalkKit
import Derived.WalkSpells
import Derived.WalkLawsBesides
import Derived.Handy
import Derived.Deep.QuietTactic
import Derived.BigQuiet
import Derived.Outline
import Derived.Laws.BitsAllLaws
import Derived.IntWalk
import Derived.Lib.SmallJoins
import Derived.Lib.Hide
import Derived.Deep.DeepCutAuto
import Derived.LoopTactic
import Derived.Deep.RegionWith
import Derived.Laws.CopyOwn
import Derived.Maps.OwnOps
import Derived.Maps.OwnSet
import Derived.Laws.OwnMore
import Derived.Maps.AppendAt
import Derived.RangeFuncNested
import Derived.RangeFuncBound
import Derived.RangeFuncCalls
import Derived.RangeFuncLeaves
import Derived.RangeFuncBox
import Derived.RangeFuncFrom
import Derived.Shelf.Abstract
import Derived.Shelf.RegionOpen
import Derived.OwnWalkIn
import Derived.TacticsInMore
import Derived.LoopNIn
import Derived.LoopIn
import Derived.Deep.RegionHeld3
import Derived.RegionTactic
import Derived.ChangeAlike
namespace Go.Proofs.YtbefkngeffpokaaDoor
set_option linter.unusedVariables false
set_option linter.unusedSimpArgs false
open Go.RowKit


/-- The table lies there. -/
def Tb1 (w : World) : Prop := 0 < w.heap.size ∧ TabAt 0 Lib.deBruijn64tab w
theorem Tb1.here {w W : World} (h : Tb1 w) (hb : Below w.heap.size w W) (hl : w.heap.size < W.heap.size) : Tb W := ⟨by have := h.1; omega, fun j hj => (hb.cell (p := ⟨0, j, none⟩) (by have := h.1; show 0 < w.heap.size; omega)).trans (h.2 j hj)⟩
/-- What Few says where it says yes. -/
def FewQ (C : Int) (K : Nat) (nc : Nat → Nat) : Prop := (C < 0 ∨ 4096 < C ∨ 4096 < K) ∨ (K ≤ 14 ∧ C ≤ 14 ∧ 0 ≤ C ∧ ∀ c, c < K → nc c ≤ 20)
def FewRq (p : Prop) (w : World) (e : Ending) (w' : World) : Prop := ∃ r, e = .returned (.bool r) ∧ (r = true → p) ∧ Below w.heap.size w w'
set_option maxHeartbeats 2000000 in
theorem few_q (C : Int) (K : Nat) (o : Option Addr) (cap : Nat) (oc : Nat → Option Addr) (nc cc : Nat → Nat) (xc : Nat → Nat → Int) (w : World) (hL : Lv w o K oc nc cc xc) :
    Calls Tryd.prog 42 #[mv C o K cap] w (FewRq (FewQ C K nc) w) := by
  have hbx : Below w.heap.size w (w.alloc (.cells #[.int .i64 C, .slice o K cap] 24)) := (Below.refl _ _).alloc (Nat.le_refl _) _
  have HL := Lib.hid (hL.below hbx)
  have HB := Lib.hid hbx
  clear hL hbx
  unfold mv
  by_cases hK : 4096 < K
  · have k1 : (4096 : Int) < (K : Int) := by omega
    have k2 : decide (4096 < K) = true := decide_eq_true hK
    go_enter Tryd.func42, Tryd.ntmps42
    go_wp2_with fail
    go_ret
    exact ⟨true, rfl, fun _ => .inl (.inr (.inr hK)), HB.out⟩
  · have k1 : ¬ (4096 : Int) < (K : Int) := by omega
    have k2 : decide (4096 < K) = false := decide_eq_false hK
    by_cases h1 : C < 0
    · go_enter Tryd.func42, Tryd.ntmps42
      go_wp2_with fail
      go_ret
      exact ⟨true, rfl, fun _ => .inl (.inl h1), HB.out⟩
    · by_cases h2 : 4096 < C
      · go_enter Tryd.func42, Tryd.ntmps42
        go_wp2_with fail
        go_ret
        exact ⟨true, rfl, fun _ => .inl (.inr (.inl h2)), HB.out⟩
      · go_enter Tryd.func42, Tryd.ntmps42
        go_wp2_with fail
        go_loop [3] (fun j => ∃ c : Nat, c ≤ K ∧ c ≤ 20 ∧ j = .int .i64 (c : Int) ∧ ∀ d, d < c → nc d ≤ 20) (fun j => 20 - (intOf j).toNat)
        case atStart => exact ⟨0, by omega, by omega, by first | trivial | rfl, fun d h => absurd h (Nat.not_lt_zero _)⟩
        case round =>
          obtain ⟨c, hc, h20, rfl, hall⟩ := hrel
          have HAll := Lib.hid hall
          clear hall
          by_cases hlt : c < K ∧ c < 20
          · have hc1 : (c : Int) < (K : Int) := by omega
            have hc2 : decide (c < K) = true := decide_eq_true hlt.1
            have hc3 : (c : Int) < 20 := by omega
            have hc4 : decide (c < 20) = true := decide_eq_true hlt.2
            obtain ⟨b, off, rfl, hb, hcl⟩ := HL.out (by omega)
            obtain ⟨e1, _⟩ := hcl c hlt.1
            obtain ⟨oo, ho⟩ : ∃ x, oc c = x := ⟨_, rfl⟩
            obtain ⟨n1, hm⟩ : ∃ x, nc c = x := ⟨_, rfl⟩
            obtain ⟨kk, hk⟩ : ∃ x, cc c = x := ⟨_, rfl⟩
            rw [ho, hm, hk] at e1
            have HNc := Lib.hid hm
            clear hcl ho hm hk
            by_cases hn : 20 < n1
            · have hn1 : (20 : Int) < (n1 : Int) := by omega
              clear hlt
              go_wp2_with fail
              go_ret
              exact ⟨false, rfl, (fun h => by cases h), HB.out⟩
            · have hn1 : ¬ (20 : Int) < (n1 : Int) := by omega
              obtain ⟨hlt1, hlt2⟩ := hlt
              go_wp2_with fail
              go_round
              case rel =>
                refine ⟨c + 1, by omega, by omega, by go_num, fun d hd => ?_⟩
                by_cases e : d = c
                · rw [e, HNc.out]; omega
                · exact HAll.out d (by omega)
              case measure => simp [intOf]; omega
          · by_cases h3 : c < K
            · have hc1 : (c : Int) < (K : Int) := by omega
              have hc2 : decide (c < K) = true := decide_eq_true h3
              have hc3 : ¬ (c : Int) < 20 := by omega
              have hc4 : decide (c < 20) = false := decide_eq_false (by omega)
              have k14 : ¬ (K : Int) ≤ 14 := by omega
              have k15 : decide (K ≤ 14) = false := decide_eq_false (by omega)
              clear hlt
              go_wp2_with fail
              go_ret
              exact ⟨false, rfl, (fun h => by cases h), HB.out⟩
            · have hc1 : ¬ (c : Int) < (K : Int) := by omega
              have hc2 : decide (c < K) = false := decide_eq_false h3
              clear hlt
              by_cases h14 : K ≤ 14
              · have k14 : (K : Int) ≤ 14 := by omega
                have k15 : decide (K ≤ 14) = true := decide_eq_true h14
                by_cases hC14 : C ≤ 14
                · have k16 : decide (C ≤ 14) = true := decide_eq_true hC14
                  go_wp2_with fail
                  go_ret
                  exact ⟨true, rfl, fun _ => .inr ⟨h14, hC14, by omega, fun d hd => HAll.out d (by omega)⟩, HB.out⟩
                · have k16 : decide (C ≤ 14) = false := decide_eq_false hC14
                  go_wp2_with fail
                  go_ret
                  exact ⟨false, rfl, (fun h => by cases h), HB.out⟩
              · have k14 : ¬ (K : Int) ≤ 14 := by omega
                have k15 : decide (K ≤ 14) = false := decide_eq_false h14
                go_wp2_with fail
                go_ret
                exact ⟨false, rfl, (fun h => by cases h), HB.out⟩
set_option maxHeartbeats 2000000 in
theorem few_allq (n : Nat) (hn : n ≤ 10) (b : Nat) (C : Nat → Int) (o : Nat → Option Addr) (K cap : Nat → Nat) (w : World) (hM : Mats w b n C o K cap)
    (QQ : Nat → Prop) (hF : ∀ c, c < n → ∀ W, Below w.heap.size w W → Calls Tryd.prog 42 #[mv (C c) (o c) (K c) (cap c)] W (FewRq (QQ c) W)) :
    Calls Tryd.prog 12 #[.slice (some ⟨b, 0, none⟩) n n] w fun e w' => (∃ r, e = .returned (.bool r) ∧ (r = true → ∀ c, c < n → QQ c)) ∧ Below w.heap.size w w' := by
  have HM := Lib.hid hM
  have HF := Lib.hid hF
  clear hM hF
  go_enter Tryd.func12, Tryd.ntmps12
  go_wp2_with fail
  go_loopw [7] (fun j wr => ∃ c : Nat, c ≤ n ∧ j = .int .i64 (c : Int) ∧ (∀ d, d < c → QQ d) ∧ Below w.heap.size w wr) (fun j _ => n - (intOf j).toNat)
  case atStart => exact ⟨0, by omega, by first | trivial | rfl, fun d h => absurd h (Nat.not_lt_zero _), Below.refl _ _⟩
  case round =>
    obtain ⟨c, hc, rfl, hall, hbe⟩ := hrel
    have HAll := Lib.hid hall
    have HBe := Lib.hid hbe
    by_cases hlt : c < n
    · have hc1 : (c : Int) < (n : Int) := by omega
      have e0 := (hbe.cell (p := ⟨b, c * 2, none⟩) HM.out.lt).trans (HM.out.c0 c hlt)
      have e1 := (hbe.cell (p := ⟨b, c * 2 + 1, none⟩) HM.out.lt).trans (HM.out.c1 c hlt)
      have hbx : Below w.heap.size w (wr.alloc (.cells #[.int .i64 (C c), .slice (o c) (K c) (cap c)] 24)) := hbe.alloc hbe.size _
      have HFc := Lib.hid (HF.out c hlt _ hbx)
      have HBx := Lib.hid hbx
      obtain ⟨Cc, hC⟩ : ∃ x, C c = x := ⟨_, rfl⟩
      obtain ⟨oo, ho⟩ : ∃ x, o c = x := ⟨_, rfl⟩
      obtain ⟨kk, hk⟩ : ∃ x, K c = x := ⟨_, rfl⟩
      obtain ⟨pp, hp⟩ : ∃ x, cap c = x := ⟨_, rfl⟩
      rw [hC, ho, hk, hp] at HFc HBx
      rw [hC] at e0
      rw [ho, hk, hp] at e1
      have HCC := Lib.hid hC
      have HKK := Lib.hid hk
      unfold mv at HFc
      clear hall hbe hC ho hk hp hbx
      go_wp2_with fail
      refine HFc.out.mono ?_
      rintro e w' ⟨r, rfl, hr, hb2⟩
      have HR := Lib.hid hr
      have HB2 := Lib.hid (HBx.out.trans (Joins.below_le hb2 HBx.out.size))
      clear hr hb2
      cases r with
      | true =>
        go_wp2_with fail
        go_roundw
        case rel =>
          refine ⟨c + 1, by omega, by go_num, fun d hd => ?_, HB2.out⟩
          by_cases e : d = c
          · rw [e]; exact HR.out (by first | trivial | rfl)
          · exact HAll.out d (by omega)
        case measure => simp [intOf]; omega
      | false =>
        go_wp2_with fail
        go_ret
        exact ⟨⟨false, rfl, fun h => by cases h⟩, HB2.out⟩
    · have e : c = n := by omega
      subst e
      clear hlt hall hbe
      go_wp2_with fail
      go_ret
      exact ⟨⟨true, rfl, fun _ => HAll.out⟩, HBe.out⟩
set_option maxHeartbeats 2000000 in
theorem check_size (C : Int) (K : Nat) (o : Option Addr) (cap : Nat) (h : C < 0 ∨ 4096 < C ∨ 4096 < K) (w : World) : Calls Tryd.prog 18 #[mv C o K cap] w fun e w' => e = .returned (.int .i64 (if C < 0 ∨ 4096 < C then 2 else 5)) ∧ Below w.heap.size w w' := by
  have HB := Lib.hid (mbel w C o K cap)
  unfold mv
  by_cases h1 : C < 0
  · rw [if_pos (.inl h1)]
    go_enter Tryd.func18, Tryd.ntmps18
    go_wp2_with fail
    go_ret
    exact ⟨rfl, HB.out⟩
  · by_cases h2 : 4096 < C
    · rw [if_pos (.inr h2)]
      go_enter Tryd.func18, Tryd.ntmps18
      go_wp2_with fail
      go_ret
      exact ⟨rfl, HB.out⟩
    · rw [if_neg (by omega)]
      have h3 : 4096 < K := by omega
      have h4 : (4096 : Int) < (K : Int) := by omega
      have h5 : decide (4096 < K) = true := decide_eq_true h3
      go_enter Tryd.func18, Tryd.ntmps18
      go_wp2_with fail
      go_ret
      exact ⟨rfl, HB.out⟩
set_option maxHeartbeats 2000000 in
theorem rcheck_size (C : Int) (K : Nat) (o : Option Addr) (cap : Nat) (h : C < 0 ∨ 4096 < C ∨ 4096 < K) (w : World) : Calls Tryd.prog 19 #[mv C o K cap] w fun e w' => e = .returned (.int .i64 (if C < 0 ∨ 4096 < C then 2 else 5)) ∧ Below w.heap.size w w' := by
  have HB := Lib.hid (mbel w C o K cap)
  unfold mv
  by_cases h1 : C < 0
  · rw [if_pos (.inl h1)]
    go_enter Tryd.func19, Tryd.ntmps19
    go_wp2_with fail
    go_ret
    exact ⟨rfl, HB.out⟩
  · by_cases h2 : 4096 < C
    · rw [if_pos (.inr h2)]
      go_enter Tryd.func19, Tryd.ntmps19
      go_wp2_with fail
      go_ret
      exact ⟨rfl, HB.out⟩
    · rw [if_neg (by omega)]
      have h3 : 4096 < K := by omega
      have h4 : (4096 : Int) < (K : Int) := by omega
      have h5 : decide (4096 < K) = true := decide_eq_true h3
      go_enter Tryd.func19, Tryd.ntmps19
      go_wp2_with fail
      go_ret
      exact ⟨rfl, HB.out⟩

/-- A matrix that is few: not well-formed, and both say so alike; or K rows of N columns. -/
def Mst (w : World) (C : Int) (o : Option Addr) (K cap : Nat) : Prop := (∃ c : Int, c ≠ 0 ∧ ∀ W, Below w.heap.size w W → (Calls Tryd.prog 18 #[mv C o K cap] W fun e w' => e = .returned (.int .i64 c) ∧ Below W.heap.size W w') ∧ (Calls Tryd.prog 19 #[mv C o K cap] W fun e w' => e = .returned (.int .i64 c) ∧ Below W.heap.size W w')) ∨
  ∃ (N : Nat) (r : Nat → Nat), C = (N : Int) ∧ N ≤ 14 ∧ K ≤ 14 ∧ (∀ c, c < K → r c < 2 ^ N) ∧ Mx w o K N r
theorem mst_of {C : Int} {K : Nat} {o : Option Addr} {cap : Nat} {oc : Nat → Option Addr} {nc cc : Nat → Nat} {xc : Nat → Nat → Int} {w : World} (hq : FewQ C K nc) (hL : Lv w o K oc nc cc xc) : Mst w C o K cap := by
  rcases hq with h | ⟨h1, h2, h3, h4⟩
  · exact .inl ⟨_, by by_cases h5 : C < 0 ∨ 4096 < C <;> simp [h5], fun W _ => ⟨check_size C K o cap h W, rcheck_size C K o cap h W⟩⟩
  · by_cases h0 : mcode C K nc xc = 0
    · obtain ⟨N, r, rfl, hN, hK, hr, hm⟩ := mx_of h0
      exact .inr ⟨N, r, rfl, by omega, h1, hr, hm w o oc cc hL⟩
    · exact .inl ⟨_, h0, fun W hW => ⟨check_any C K o cap oc nc cc (fun c hc => by have := h4 c hc; omega) xc W (hL.below hW), rcheck_any C K o cap oc nc cc (fun c hc => by have := h4 c hc; omega) xc W (hL.below hW)⟩⟩
theorem Mst.below {w W : World} {C : Int} {o : Option Addr} {K cap : Nat} (h : Mst w C o K cap) (hb : Below w.heap.size w W) : Mst W C o K cap := by
  rcases h with ⟨c, h0, h1⟩ | ⟨N, r, h1, h2, h3, h4, h5⟩
  · exact .inl ⟨c, h0, fun V hV => h1 V (hb.trans (hV.mono hb.size))⟩
  · exact .inr ⟨N, r, h1, h2, h3, h4, h5.below hb⟩
theorem lz_cong {w : World} {o : Option Addr} {n : Nat} {f : Nat → Int} {l : List Nat} (h : Lz w o n f) (hn : n = l.length) (hf : ∀ i, i < n → f i = lz l i) : Lz w o l.length (lz l) := by
  subst hn
  exact h.congr hf
/-- Both say alike whether vectors are a refutation. -/
theorem verify_pair (C : Int) (K : Nat) (o p q : Option Addr) (cap n m cp cq : Nat) (f g : Nat → Int) (hn : n ≤ 1000) (hm : m ≤ 1000) (w : World) (hM : Mst w C o K cap) (hL : Lz w p n f) (hL' : Lz w q m g) (hT : Tb w) : ∃ v : Int, ∀ W, Below w.heap.size w W →
    (Calls Tryd.prog 35 #[mv C o K cap, .slice p n cp, .slice q m cq] W fun e w' => e = .returned (.int .i64 v) ∧ Below W.heap.size W w') ∧
    (Calls Tryd.prog 34 #[mv C o K cap, .slice p n cp, .slice q m cq] W fun e w' => e = .returned (.int .i64 v) ∧ Below W.heap.size W w') := by
  rcases hM with ⟨c, h0, h1⟩ | ⟨N, r, rfl, hN, hK, hr, hmx⟩
  · exact ⟨c, fun W hW => ⟨verify_bad C K o cap _ _ W c h0 fun V hV => (h1 V (hW.trans (hV.mono hW.size))).1, rverify_bad C K o cap _ _ W c h0 fun V hV => (h1 V (hW.trans (hV.mono hW.size))).2⟩⟩
  · have k1 := fun W (hW : Below w.heap.size w W) V (hV : Below W.heap.size W V) => check_mx N K (by omega) (by omega) r o cap V (hmx.below (hW.trans (hV.mono hW.size)))
    have k2 := fun W (hW : Below w.heap.size w W) V (hV : Below W.heap.size W V) => rcheck_mx N K (by omega) (by omega) r o cap V (hmx.below (hW.trans (hV.mono hW.size)))
    by_cases hb : vcode (K : Int) n f = 0
    · by_cases hy : vcode (K : Int) m g = 0
      · obtain ⟨bb, hbb, hbn, hbf⟩ := vcode_mask hb
        obtain ⟨yy, hyy, hyn, hyf⟩ := vcode_mask hy
        have z1 := lz_cong hL hbn hbf
        have z2 := lz_cong hL' hyn hyf
        subst hbn hyn
        exact ⟨_, fun W hW => ⟨verify_good N K (by omega) (by omega) r hr bb yy hbb o p q cap cp cq W (hT.here hW) (hmx.below hW) (z1.below hW) (z2.below hW), rverify_good N K (by omega) (by omega) r bb yy o p q cap cp cq W (hmx.below hW) (z1.below hW) (z2.below hW)⟩⟩
      · exact ⟨_, fun W hW => ⟨verify_bad3 (N : Int) K (by omega) o cap n (by omega) f p cp m (by omega) g q cq W (hL.below hW) (hL'.below hW) _ hb rfl hy (k1 W hW), rverify_bad3 (N : Int) K (by omega) o cap n (by omega) f p cp m (by omega) g q cq W (hL.below hW) (hL'.below hW) _ hb rfl hy (k2 W hW)⟩⟩
    · exact ⟨_, fun W hW => ⟨verify_bad2 (N : Int) K (by omega) o cap n (by omega) f p cp _ W (hL.below hW) _ rfl hb (k1 W hW), rverify_bad2 (N : Int) K (by omega) o cap n (by omega) f p cp _ W (hL.below hW) _ rfl hb (k2 W hW)⟩⟩

end Go.Proofs.YtbefkngeffpokaaDoor
