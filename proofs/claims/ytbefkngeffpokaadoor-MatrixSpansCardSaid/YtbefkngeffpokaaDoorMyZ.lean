/- Vectors that lie as lists; what Apply, Solve, Verify, Plus make of them. MatrixDecides. -/
import Derived.Test.YtbefkngeffpokaaDoorMyW
import Derived.WalkKit
import Derived.WalkSpells
import Derived.WalkLawsBesides
import Derived.Handy
import Derived.Deep.QuietTactic
import Derived.BigQuiet
import Derived.Outline
import Derived.Laws.BitsAllLaws
import Derived.IntWalk
import Derived.Lib.SmallJoins
import Derived.Lib.Hide
import Derived.Deep.DeepCutAuto
import Derived.LoopTactic
import Derived.Deep.RegionWith
import Derived.Laws.CopyOwn
import Derived.Maps.OwnOps
import Derived.Maps.OwnSet
import Derived.Laws.OwnMore
import Derived.Maps.AppendAt
import Derived.RangeFuncNested
import Derived.RangeFuncBound
import Derived.RangeFuncCalls
import Derived.RangeFuncLeaves
import Derived.RangeFuncBox
import Derived.RangeFuncFrom
import Derived.Shelf.Abstract
import Derived.Shelf.RegionOpen
import Derived.OwnWalkIn
import Derived.TacticsInMore
import Derived.LoopNIn
import Derived.LoopIn
import Derived.Deep.RegionHeld3
import Derived.RegionTactic
import Derived.ChangeAlike
namespace Go.Proofs.YtbefkngeffpokaaDoor
set_option linter.unusedVariables false
set_option linter.unusedSimpArgs false
open Go.RowKit


/-- The vector y of N places lies there, as a list of n numbers. -/
def Vz (w : World) (o : Option Addr) (n N y : Nat) : Prop := n = (el N y).length ∧ Lz w o n (lz (el N y))
theorem Vz.below {w W : World} {o : Option Addr} {n N y : Nat} (h : Vz w o n N y) (hb : Below w.heap.size w W) : Vz W o n N y := ⟨h.1, h.2.below hb⟩
theorem Vz.len0 {w : World} {o : Option Addr} {n N : Nat} (h : Vz w o n N 0) : n = 0 := by rw [h.1, el_zero]; rfl
theorem Vz.none_ (w : World) (N : Nat) : Vz w none 0 N 0 := ⟨by rw [el_zero]; rfl, Lz.nil⟩
theorem vz_open {N n : Nat} {f : Nat → Int} (h : vcode (N : Int) n f = 0) : ∃ y, y < 2 ^ N ∧ ∀ w o, Lz w o n f → Vz w o n N y := by
  obtain ⟨y, h1, h2, h3⟩ := vcode_mask h
  refine ⟨y, h1, fun w o hL => ⟨h2, ?_⟩⟩
  have := lz_cong hL h2 h3
  rwa [← h2] at this
def VOut (N y : Nat) (v : Int) (w : World) (e : Ending) (w' : World) : Prop := ∃ o n cap, e = .returned (.tuple #[.slice o n cap, .int .i64 v]) ∧ Vz w' o n N y ∧ Below w.heap.size w w'
theorem vz_apply (C K : Nat) (hC : C ≤ 31) (hK : K ≤ 31) (r : Nat → Nat) (o : Option Addr) (cap : Nat) (y : Nat) (hy : y < 2 ^ C) (p : Option Addr) (n cp : Nat) (w : World) (hM : Mx w o K C r) (hL : Vz w p n C y) :
    Calls Tryd.prog 16 #[.agg #[.int .i64 (C : Int), .slice o K cap], .slice p n cp] w (VOut K (imr K C r y) 0 w) := by
  obtain ⟨rfl, h⟩ := hL
  refine (apply_good C K hC hK r o cap y hy p cp w hM h).mono ?_
  rintro e w' ⟨u, rfl, h2, h3⟩
  obtain ⟨o', c', rfl, h4⟩ := h2.lz
  exact ⟨o', _, c', rfl, ⟨rfl, h4⟩, h3⟩
theorem vz_verify (C K : Nat) (hC : C ≤ 31) (hK : K ≤ 31) (r : Nat → Nat) (hr : ∀ c, c < K → r c < 2 ^ C) (bb yy : Nat) (hbb : bb < 2 ^ K) (o p q : Option Addr) (cap n cp m cq : Nat) (w : World) (hT : Tb w) (hM : Mx w o K C r) (hL : Vz w p n K bb) (hL' : Vz w q m K yy) :
    Calls Tryd.prog 35 #[.agg #[.int .i64 (C : Int), .slice o K cap], .slice p n cp, .slice q m cq] w fun e w' => e = .returned (.int .i64 (vfy C K r bb yy)) ∧ Below w.heap.size w w' := by
  obtain ⟨rfl, h⟩ := hL
  obtain ⟨rfl, h'⟩ := hL'
  exact verify_good C K hC hK r hr bb yy hbb o p q cap cp cq w hT hM h h'
theorem vz_plus (N x y : Nat) (hN : N ≤ 100) (o p : Option Addr) (n cap m cap' : Nat) (w : World) (hL : Vz w o n N x) (hL' : Vz w p m N y) :
    Calls Tryd.prog 38 #[.slice o n cap, .slice p m cap'] w fun e w' => ∃ q k c, e = .returned (.slice q k c) ∧ Vz w' q k N (x ^^^ y) ∧ Below w.heap.size w w' := by
  obtain ⟨rfl, h⟩ := hL
  obtain ⟨rfl, h'⟩ := hL'
  refine (plus_ok (el N x) (el N y) (by have := el_len N x; have := el_len N y; omega) o p cap cap' w h h').mono ?_
  rintro e w' ⟨v, rfl, h2, h3⟩
  rw [plus_el] at h2
  obtain ⟨o', c', rfl, h4⟩ := h2.lz
  exact ⟨o', _, c', rfl, ⟨rfl, h4⟩, h3⟩
theorem vz_equal (N y : Nat) (hN : N ≤ 100) (o p : Option Addr) (n cap m cap' : Nat) (w : World) (hL : Vz w o n N y) (hL' : Vz w p m N y) :
    Calls Tryd.prog 21 #[.slice o n cap, .slice p m cap'] w fun e w' => e = .returned (.bool true) ∧ Below w.heap.size w w' := by
  obtain ⟨rfl, h⟩ := hL
  obtain ⟨rfl, h'⟩ := hL'
  have := equal_any _ _ (by have := el_len N y; omega) (lz (el N y)) (lz (el N y)) o p cap cap' w h h'
  rwa [eqb_self fun i _ => rfl] at this
theorem rvec_below (C : Int) (n : Nat) (hn : n ≤ 1000) (f : Nat → Int) (o : Option Addr) (cap : Nat) (w : World) (hL : Lz w o n f) : Calls Tryd.prog 37 #[.int .i64 C, .slice o n cap] w fun e w' => e = .returned (.int .i64 (vcode C n f)) ∧ Below w.heap.size w w' := by
  refine (rvec_any C n (by omega) f o cap w hL).mono ?_
  rintro e w' ⟨h1, d, rfl⟩
  exact ⟨h1, below_dn d (Below.refl _ _)⟩
def SA (C K : Nat) (r : Nat → Nat) (b : Nat) (w : World) (e : Ending) (w' : World) : Prop := ∃ s xo n xc, e = .returned (.tuple #[.slice xo n xc, .slice none 0 0, .bool true, .int .i64 0]) ∧ Vz w' xo n C s ∧ s < 2 ^ C ∧ imr K C r s = b ∧ Below w.heap.size w w'
def SB (C K : Nat) (r : Nat → Nat) (b : Nat) (w : World) (e : Ending) (w' : World) : Prop := ∃ y fo n fc, e = .returned (.tuple #[.slice none 0 0, .slice fo n fc, .bool false, .int .i64 0]) ∧ Vz w' fo n K y ∧ Rf K r b y ∧ y < 2 ^ K ∧ Below w.heap.size w w'
theorem vz_solve (C K : Nat) (hCK : C + 1 + K ≤ 31) (r : Nat → Nat) (hr : ∀ i, i < K → r i < 2 ^ C) (bb : Nat) (hbb : bb < 2 ^ K) (o p : Option Addr) (cap n cp : Nat) (w : World) (hM : Mx w o K C r) (hL : Vz w p n K bb) (hTb : Tb w) :
    Calls Tryd.prog 32 #[.agg #[.int .i64 (C : Int), .slice o K cap], .slice p n cp] w fun e w' => SA C K r bb w e w' ∨ SB C K r bb w e w' := by
  obtain ⟨rfl, h⟩ := hL
  have hw : ∀ i, i < K → wide C r bb i < 2 ^ (C + 1) := fun i hi => by
    have h1 := hr i hi
    apply Nat.lt_pow_two_of_testBit
    intro q hq
    rw [wide_bit h1, if_neg (by omega), if_neg (by omega)]
  obtain ⟨T, σ, hcan⟩ := can_of hw
  refine (solve_good C K hCK r hr bb hbb T σ hcan sort_ok o p cap cp w hM h hTb).mono ?_
  rintro e w' ⟨hb, (⟨_, y, fo, fc, h1, h2, h3, h4⟩ | ⟨h0, xo, xc, h1, h2⟩)⟩
  · exact .inr ⟨y, fo, _, fc, h1, ⟨rfl, h2⟩, h3, h4, hb⟩
  · have e1 := sol_el hcan h0
    exact .inl ⟨msk (sol C T σ), xo, _, xc, h1, ⟨by rw [e1], by rw [e1]; exact h2⟩, msk_lt (asc_nodup (sol_asc hcan)) (sol_lt hcan h0), sol_ok hr hbb hcan h0, hb⟩
theorem vz_solved (C K : Nat) (hCK : C + 1 + K ≤ 31) (r : Nat → Nat) (hr : ∀ i, i < K → r i < 2 ^ C) (x : Nat) (hx : x < 2 ^ C) (o p : Option Addr) (cap n cp : Nat) (w : World) (hM : Mx w o K C r) (hL : Vz w p n K (imr K C r x)) (hTb : Tb w) :
    Calls Tryd.prog 32 #[.agg #[.int .i64 (C : Int), .slice o K cap], .slice p n cp] w (SA C K r (imr K C r x) w) := by
  refine (vz_solve C K hCK r hr _ (imr_lt K C r x) o p cap n cp w hM hL hTb).mono ?_
  rintro e w' (h | ⟨y, fo, m, fc, h1, h2, ⟨h3, h5⟩, h4⟩)
  · exact h
  · rw [rf_not hx h3] at h5
    cases h5
theorem odl_comm (K b y : Nat) : odl b (el K y) = odl y (el K b) := by
  rw [odl_bit, odl_bit]
  exact xs_congr fun j _ => Bool.and_comm _ _
theorem vfy_rf {C K : Nat} {r : Nat → Nat} {b y : Nat} (h : Rf K r b y) : vfy C K r b y = 0 := by
  unfold vfy
  rw [if_pos]
  refine ⟨by rw [h.1, Nat.zero_mod], ?_⟩
  have := h.2
  rw [odl_comm] at this
  exact this
theorem vfy_not {C K : Nat} {r : Nat → Nat} {x y : Nat} (hx : x < 2 ^ C) (hy : y < 2 ^ K) (h : sumr r 0 (el K y) = 0) : vfy C K r (imr K C r x) y = 18 := by
  unfold vfy
  rw [if_neg]
  rintro ⟨_, h2⟩
  rw [odl_comm, rf_not hx h] at h2
  cases h2

end Go.Proofs.YtbefkngeffpokaaDoor
