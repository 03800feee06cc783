/- The list of the positions of a bit vector below a length. -/
import Derived.Test.YtbefkngeffpokaaDoorMxC
import Derived.WalkKit
import Derived.WalkSpells
import Derived.WalkLawsBesides
import Derived.Handy
import Derived.Deep.QuietTactic
import Derived.BigQuiet
import Derived.Outline
import Derived.Laws.BitsAllLaws
import Derived.IntWalk
import Derived.Lib.SmallJoins
import Derived.Lib.Hide
import Derived.Deep.DeepCutAuto
import Derived.LoopTactic
import Derived.Deep.RegionWith
import Derived.Laws.CopyOwn
import Derived.Maps.OwnOps
import Derived.Maps.OwnSet
import Derived.Laws.OwnMore
import Derived.Maps.AppendAt
import Derived.RangeFuncNested
import Derived.RangeFuncBound
import Derived.RangeFuncCalls
import Derived.RangeFuncLeaves
import Derived.RangeFuncBox
import Derived.RangeFuncFrom
import Derived.Shelf.Abstract
import Derived.Shelf.RegionOpen
import Derived.OwnWalkIn
import Derived.TacticsInMore
import Derived.LoopNIn
import Derived.LoopIn
import Derived.Deep.RegionHeld3
import Derived.RegionTactic
import Derived.ChangeAlike
namespace Go.Proofs.YtbefkngeffpokaaDoor
set_option linter.unusedVariables false
set_option linter.unusedSimpArgs false
open Go.RowKit

theorem el_gap {f x : Nat} : ∀ (d : Nat), (∀ q, f ≤ q → q < f + d → x.testBit q = false) → el (f + d) x = el f x
  | 0, _ => rfl
  | d + 1, h => by
    show el (f + d + 1) x = _
    rw [el_succ, h (f + d) (by omega) (by omega), if_neg (by simp), el_gap d fun q h1 h2 => h q h1 (by omega)]
theorem el_gap' {f g x : Nat} (hfg : f ≤ g) (h : ∀ q, f ≤ q → q < g → x.testBit q = false) : el g x = el f x := by
  obtain ⟨d, rfl⟩ : ∃ d, g = f + d := ⟨g - f, by omega⟩
  exact el_gap d h
/-- Numbers as integers. -/
def ints (l : List Nat) : List Int := l.map fun (x : Nat) => (x : Int)
theorem ints_len (l : List Nat) : (ints l).length = l.length := by simp [ints]
theorem ints_at (l : List Nat) (j : Nat) : (ints l).getD j 0 = lz l j := by
  unfold ints lz
  rw [List.getD_eq_getElem?_getD, List.getD_eq_getElem?_getD, List.getElem?_map]
  cases l[j]? <;> rfl
theorem ints_snoc (l : List Nat) (p : Nat) : ints (l ++ [p]) = ints l ++ [(p : Int)] := by simp [ints]
/-- What first gives. -/
def Fst (x f : Nat) (v : Value) : Prop := (∃ p : Nat, f ≤ p ∧ x.testBit p = true ∧ (∀ q, f ≤ q → q < p → x.testBit q = false) ∧ v = .int .i64 (p : Int)) ∨ ((∀ q, f ≤ q → x.testBit q = false) ∧ v = .int .i64 (-1))
theorem first_of (x : Nat) : ∀ (d f : Nat), (∃ p, f ≤ p ∧ p < f + d ∧ x.testBit p = true) → ∃ p, f ≤ p ∧ x.testBit p = true ∧ ∀ q, f ≤ q → q < p → x.testBit q = false
  | 0, f, ⟨p, h1, h2, _⟩ => by omega
  | d + 1, f, ⟨p, h1, h2, h3⟩ => by
    cases hf : x.testBit f with
    | true => exact ⟨f, Nat.le_refl _, hf, fun q h4 h5 => by omega⟩
    | false =>
      obtain ⟨p', h4, h5, h6⟩ := first_of x d (f + 1) ⟨p, by
        by_cases e : p = f
        · rw [e, hf] at h3; cases h3
        · omega, by omega, h3⟩
      exact ⟨p', by omega, h5, fun q h7 h8 => by
        by_cases e : q = f
        · rw [e]; exact hf
        · exact h6 q (by omega) h8⟩
theorem first_any (b x f : Nat) (hx : x < 4294967296) (hf : f ≤ 32) (w : World) (hb : Bx w b x) (hT : Tb w) :
    Calls Tryd.prog 63 #[.slice (some ⟨b, 0, none⟩) 1 1, .int .i64 (f : Int)] w fun e w' => (∃ v, e = .returned v ∧ Fst x f v) ∧ w = w' := by
  by_cases h : ∃ p, f ≤ p ∧ x.testBit p = true
  · obtain ⟨p0, h1, h2⟩ := h
    obtain ⟨p, h3, h4, h5⟩ := first_of x (p0 + 1) f ⟨p0, h1, by omega, h2⟩
    exact (first_some b x f p hx h3 h4 h5 w hb hT).mono fun e w' ⟨e1, e2⟩ => ⟨⟨_, e1, .inl ⟨p, h3, h4, h5, rfl⟩⟩, e2⟩
  · have hno : ∀ q, f ≤ q → x.testBit q = false := fun q hq => by
      cases hv : x.testBit q with
      | false => rfl
      | true => exact absurd ⟨q, hq, hv⟩ h
    exact (first_none b x f hx hf hno w hb).mono fun e w' ⟨e1, e2⟩ => ⟨⟨_, e1, .inr ⟨hno, rfl⟩⟩, e2⟩
theorem Tb.grown {w W : World} {R : Nat} (h : Tb w) (hb : Below R w W) (hR : 1 < R) : Tb W := h.below hb hR
set_option maxHeartbeats 2000000 in
theorem list_ok (b x C : Nat) (hx : x < 4294967296) (hC : C ≤ 31) (w : World) (hb : Bx w b x) (hT : Tb w) :
    Calls Tryd.prog 53 #[.slice (some ⟨b, 0, none⟩) 1 1, .int .i64 (C : Int)] w fun e w' => ∃ v, e = .returned v ∧ Row w' w.heap.size v (ints (el C x)) ∧ Below w.heap.size w w' := by
  have HF := Lib.hid (fun f (hf : f ≤ 32) W (h : Bx W b x) (hT : Tb W) => first_any b x f hx hf W h hT)
  have Hb := Lib.hid hb
  have HT := Lib.hid hT
  have hbl := Box.lt hb
  have hTl := hT.1
  clear hb hT
  go_enter Tryd.func53, Tryd.ntmps53
  go_wp2_with fail
  refine (HF.out 0 (by omega) _ Hb.out HT.out).mono ?_
  rintro e w' ⟨⟨v0, rfl, hv0⟩, rfl⟩
  have HV0 := Lib.hid hv0
  clear hv0
  go_wp2_with fail
  go_loopw [5, 6] (fun v i wr => ∃ f : Nat, f ≤ C ∧ Row wr w.heap.size v (ints (el f x)) ∧ Fst x f i ∧ Below w.heap.size w wr) (fun _ i _ => if intOf i < 0 then 0 else 64 - (intOf i).toNat)
  case atStart => exact ⟨0, by omega, (by simp [el, ints]; exact Row.nil _ _), HV0.out, Below.refl _ _⟩
  case round =>
    clear HV0
    obtain ⟨f, hf, hrw, hfs, hbe⟩ := hrel
    have HRw := Lib.hid hrw
    have HBe := Lib.hid hbe
    rcases hfs with ⟨p, hfp, hp, hlow, rfl⟩ | ⟨hno, rfl⟩
    · have hp32 : p < 32 := by
        rcases Nat.lt_or_ge p 32 with h | h
        · exact h
        · have h32 : x < 2 ^ p := Nat.lt_of_lt_of_le hx (Nat.pow_le_pow_right (n := 2) (by omega) h)
          rw [Nat.testBit_lt_two_pow h32] at hp; cases hp
      have hp0 : (0 : Int) ≤ (p : Int) := by omega
      by_cases hpC : p < C
      · have hpC1 : (p : Int) < (C : Int) := by omega
        have hel : el (p + 1) x = el f x ++ [p] := by rw [el_succ, hp, if_pos rfl, el_gap' hfp hlow]
        have hlen : (ints (el f x)).length ≤ 1000000 := by rw [ints_len]; have := el_len f x; omega
        obtain ⟨m, hm⟩ : ∃ m, (ints (el f x)).length = m := ⟨_, rfl⟩
        obtain ⟨ov, cv, rfl, _⟩ := hrw.shape' hm
        have HEl := Lib.hid hel
        have HM := Lib.hid hm
        have HLen := Lib.hid hlen
        have HF2 := Lib.hid (fun W (h : Bx W b x) (hT : Tb W) => (show Calls Tryd.prog 63 #[.slice (some ⟨b, 0, none⟩) 1 1, .int .i64 ((p : Int) + 1)] W _ from HF.out (p + 1) (by omega) W h hT))
        have hsz := hbe.size
        have HSz := Lib.hid hsz
        clear hrw hbe hel hm hlen hlow hp hfp hsz
        go_wp2_with (at_builtin; refine app_int _ rfl _ _ rfl w.heap.size _ _ rfl (HRw.out.alloc _) wr.heap.size (p : Int) rfl (World.cell?_alloc_mark _ #[_] 3 (0, 0) 0) HLen.out (by have := HSz.out; simp; omega) ?_; intro gg cv2 w2 hr2 hbb2 hgg; have HR2 := Lib.hid hr2; have HBB := Lib.hid ((HBe.out.alloc HSz.out (.cells #[.int .i64 (p : Int)] 3)).trans hbb2); clear hr2 hbb2)
        refine (HF2.out _ (Hb.out.below HBB.out hbl) (HT.out.below HBB.out hTl)).mono ?_
        rintro e w3 ⟨⟨v3, rfl, hv3⟩, rfl⟩
        have HV3 := Lib.hid hv3
        have HDec : Hid ((if intOf v3 < 0 then 0 else 64 - (intOf v3).toNat) < 64 - p) := Lib.hid (by
          rcases hv3 with ⟨p', h1, _, _, rfl⟩ | ⟨_, rfl⟩
          · have e : intOf (Value.int .i64 (p' : Int)) = (p' : Int) := rfl
            rw [e, if_neg (by omega)]
            omega
          · have e : intOf (Value.int .i64 (-1)) = -1 := rfl
            rw [e, if_pos (by omega)]
            omega)
        clear hv3
        go_wp2_with fail
        go_roundw
        case rel => exact ⟨p + 1, by omega, by rw [HEl.out, ints_snoc]; exact HR2.out, HV3.out, HBB.out⟩
        case measure =>
          have e : intOf (Value.int .i64 (p : Int)) = (p : Int) := rfl
          have := HDec.out
          simp only [e]
          rw [if_neg (show ¬ (p : Int) < 0 by omega)]
          simpa using this
      · have hpC1 : ¬ (p : Int) < (C : Int) := by omega
        have hel : el C x = el f x := el_gap' hf fun q h1 h2 => hlow q h1 (by omega)
        rw [← hel] at HRw
        clear hrw hbe hlow hp hfp hel
        go_wp2_with fail
        go_ret
        exact ⟨_, rfl, HRw.out, HBe.out⟩
    · have hel : el C x = el f x := el_gap' hf fun q h1 h2 => hno q h1
      rw [← hel] at HRw
      clear hrw hbe hno hel
      go_wp2_with fail
      go_ret
      exact ⟨_, rfl, HRw.out, HBe.out⟩

end Go.Proofs.YtbefkngeffpokaaDoor
