/- Equality of vectors and of matrices. -/
import Derived.Test.YtbefkngeffpokaaDoorMxQ
import Derived.WalkKit
import Derived.WalkSpells
import Derived.WalkLawsBesides
import Derived.Handy
import Derived.Deep.QuietTactic
import Derived.BigQuiet
import Derived.Outline
import Derived.Laws.BitsAllLaws
import Derived.IntWalk
import Derived.Lib.SmallJoins
import Derived.Lib.Hide
import Derived.Deep.DeepCutAuto
import Derived.LoopTactic
import Derived.Deep.RegionWith
import Derived.Laws.CopyOwn
import Derived.Maps.OwnOps
import Derived.Maps.OwnSet
import Derived.Laws.OwnMore
import Derived.Maps.AppendAt
import Derived.RangeFuncNested
import Derived.RangeFuncBound
import Derived.RangeFuncCalls
import Derived.RangeFuncLeaves
import Derived.RangeFuncBox
import Derived.RangeFuncFrom
import Derived.Shelf.Abstract
import Derived.Shelf.RegionOpen
import Derived.OwnWalkIn
import Derived.TacticsInMore
import Derived.LoopNIn
import Derived.LoopIn
import Derived.Deep.RegionHeld3
import Derived.RegionTactic
import Derived.ChangeAlike
namespace Go.Proofs.YtbefkngeffpokaaDoor
set_option linter.unusedVariables false
set_option linter.unusedSimpArgs false
open Go.RowKit

/-- Whether two lists are equal. -/
def eqb (n : Nat) (f : Nat → Int) (m : Nat) (g : Nat → Int) : Bool := decide (n = m ∧ ∀ i, i < n → f i = g i)
theorem eqb_self {n : Nat} {f g : Nat → Int} (h : ∀ i, i < n → f i = g i) : eqb n f n g = true := decide_eq_true ⟨rfl, h⟩
set_option maxHeartbeats 1000000 in
theorem equal_any (n m : Nat) (hn : n ≤ 1000000) (f g : Nat → Int) (o p : Option Addr) (cap cap' : Nat) (w : World) (hL : Lz w o n f) (hL' : Lz w p m g) : Calls Tryd.prog 21 #[.slice o n cap, .slice p m cap'] w fun e w' => e = .returned (.bool (eqb n f m g)) ∧ Below w.heap.size w w' := by
  obtain ⟨r, hr⟩ : ∃ r, eqb n f m g = r := ⟨_, rfl⟩
  rw [hr]
  have HR := Lib.hid hr
  have HL := Lib.hid hL
  have HL' := Lib.hid hL'
  clear hL hL' hr
  by_cases hnm : n = m
  · subst hnm
    go_enter Tryd.func21, Tryd.ntmps21
    go_wp2_with fail
    go_loopw [13] (fun j wr => ∃ i : Nat, i ≤ n ∧ j = .int .i64 (i : Int) ∧ (∀ c, c < i → f c = g c) ∧ ∃ d, wr = w.drewN d) (fun j _ => n - (intOf j).toNat)
    case atStart => exact ⟨0, by omega, rfl, fun c h => absurd h (Nat.not_lt_zero _), 0, rfl⟩
    case round =>
      obtain ⟨i, hi, rfl, hno, d, rfl⟩ := hrel
      have HNo := Lib.hid hno
      clear hno
      by_cases hlt : i < n
      · obtain ⟨bl, ofs, rfl, hbl, hcl⟩ := HL.out (by omega)
        obtain ⟨bg, ofg, rfl, hbg, hcg⟩ := HL'.out (by omega)
        have c1 := hcl i hlt
        have c2 := hcg i hlt
        obtain ⟨x, hx⟩ : ∃ x, f i = x := ⟨_, rfl⟩
        obtain ⟨y, hy⟩ : ∃ y, g i = y := ⟨_, rfl⟩
        rw [hx] at c1
        rw [hy] at c2
        have HX := Lib.hid hx
        have HY := Lib.hid hy
        clear hcl hcg hx hy
        have hi1 : (i : Int) < (n : Int) := by omega
        by_cases hxy : x = y
        · subst hxy
          go_wp2_with fail
          go_quiet (fail)
          go_wp2_with fail
          go_roundw
          case rel =>
            refine ⟨i + 1, by omega, by go_num, fun c hc => ?_, _, rfl⟩
            by_cases e : c = i
            · subst e; rw [HX.out, HY.out]
            · exact HNo.out c (by omega)
          case measure => simp [intOf]; omega
        · have h0 : r = false := by rw [← HR.out]; exact decide_eq_false fun h => hxy (by rw [← HX.out, ← HY.out]; exact h.2 i hlt)
          subst h0
          have hne : (x != y) = true := by rw [bne_iff_ne]; exact hxy
          have hne2 : (x == y) = false := by rw [beq_eq_false_iff_ne]; exact hxy
          clear hxy
          go_wp2_with fail
          go_quiet (fail)
          go_wp2_with fail
          go_ret
          exact ⟨rfl, below_dn _ (below_dn _ (Below.refl _ _))⟩
      · have e : i = n := by omega
        subst e
        have h0 : r = true := by rw [← HR.out]; exact decide_eq_true ⟨rfl, HNo.out⟩
        subst h0
        go_wp2_with fail
        go_ret
        exact ⟨rfl, below_dn _ (Below.refl _ _)⟩
  · have h0 : r = false := by rw [← HR.out]; exact decide_eq_false fun h => hnm h.1
    subst h0
    have h1 : (n == m) = false := by simpa using hnm
    have h2 : ((n : Int) != (m : Int)) = true := by rw [bne_iff_ne]; omega
    clear hnm
    go_enter Tryd.func21, Tryd.ntmps21
    go_wp2_with fail
    go_ret
    exact ⟨rfl, Below.refl _ _⟩

set_option maxHeartbeats 1000000 in
theorem samev_any (n m : Nat) (hn : n ≤ 1000000) (f g : Nat → Int) (o p : Option Addr) (cap cap' : Nat) (w : World) (hL : Lz w o n f) (hL' : Lz w p m g) : Calls Tryd.prog 50 #[.slice o n cap, .slice p m cap'] w fun e w' => e = .returned (.bool (eqb n f m g)) ∧ Below w.heap.size w w' := by
  obtain ⟨r, hr⟩ : ∃ r, eqb n f m g = r := ⟨_, rfl⟩
  rw [hr]
  have HR := Lib.hid hr
  have HL := Lib.hid hL
  have HL' := Lib.hid hL'
  clear hL hL' hr
  by_cases hnm : n = m
  · subst hnm
    go_enter Tryd.func50, Tryd.ntmps50
    go_wp2_with fail
    go_loopw [5] (fun j wr => ∃ i : Nat, i ≤ n ∧ j = .int .i64 (i : Int) ∧ (∀ c, c < i → f c = g c) ∧ ∃ d, wr = w.drewN d) (fun j _ => n - (intOf j).toNat)
    case atStart => exact ⟨0, by omega, rfl, fun c h => absurd h (Nat.not_lt_zero _), 0, rfl⟩
    case round =>
      obtain ⟨i, hi, rfl, hno, d, rfl⟩ := hrel
      have HNo := Lib.hid hno
      clear hno
      by_cases hlt : i < n
      · obtain ⟨bl, ofs, rfl, hbl, hcl⟩ := HL.out (by omega)
        obtain ⟨bg, ofg, rfl, hbg, hcg⟩ := HL'.out (by omega)
        have c1 := hcl i hlt
        have c2 := hcg i hlt
        obtain ⟨x, hx⟩ : ∃ x, f i = x := ⟨_, rfl⟩
        obtain ⟨y, hy⟩ : ∃ y, g i = y := ⟨_, rfl⟩
        rw [hx] at c1
        rw [hy] at c2
        have HX := Lib.hid hx
        have HY := Lib.hid hy
        clear hcl hcg hx hy
        have hi1 : (i : Int) < (n : Int) := by omega
        by_cases hxy : x = y
        · subst hxy
          go_wp2_with fail
          go_quiet (fail)
          go_wp2_with fail
          go_roundw
          case rel =>
            refine ⟨i + 1, by omega, by go_num, fun c hc => ?_, _, rfl⟩
            by_cases e : c = i
            · subst e; rw [HX.out, HY.out]
            · exact HNo.out c (by omega)
          case measure => simp [intOf]; omega
        · have h0 : r = false := by rw [← HR.out]; exact decide_eq_false fun h => hxy (by rw [← HX.out, ← HY.out]; exact h.2 i hlt)
          subst h0
          have hne : (x != y) = true := by rw [bne_iff_ne]; exact hxy
          have hne2 : (x == y) = false := by rw [beq_eq_false_iff_ne]; exact hxy
          clear hxy
          go_wp2_with fail
          go_quiet (fail)
          go_wp2_with fail
          go_ret
          exact ⟨rfl, below_dn _ (below_dn _ (Below.refl _ _))⟩
      · have e : i = n := by omega
        subst e
        have h0 : r = true := by rw [← HR.out]; exact decide_eq_true ⟨rfl, HNo.out⟩
        subst h0
        go_wp2_with fail
        go_ret
        exact ⟨rfl, below_dn _ (Below.refl _ _)⟩
  · have h0 : r = false := by rw [← HR.out]; exact decide_eq_false fun h => hnm h.1
    subst h0
    have h1 : (n == m) = false := by simpa using hnm
    have h2 : ((n : Int) != (m : Int)) = true := by rw [bne_iff_ne]; omega
    clear hnm
    go_enter Tryd.func50, Tryd.ntmps50
    go_wp2_with fail
    go_ret
    exact ⟨rfl, Below.refl _ _⟩
set_option maxHeartbeats 2000000 in
theorem same_mx (C : Int) (N K : Nat) (hN : N ≤ 1000000) (hK : K ≤ 1000000) (r : Nat → Nat) (o p : Option Addr) (cap cap' : Nat) (w : World) (hM : Mx w o K N r) (hM' : Mx w p K N r) :
    Calls Tryd.prog 20 #[mv C o K cap, mv C p K cap'] w fun e w' => e = .returned (.bool true) ∧ Below w.heap.size w w' := by
  have f1 : Below w.heap.size w ((w.alloc (.cells #[.int .i64 C, .slice o K cap] 24)).alloc (.cells #[.int .i64 C, .slice p K cap'] 24)) := ((Below.refl _ _).alloc (Nat.le_refl _) _).alloc (by simp) _
  have f2 : Box ((w.alloc (.cells #[.int .i64 C, .slice o K cap] 24)).alloc (.cells #[.int .i64 C, .slice p K cap'] 24)) w.heap.size #[.int .i64 C, .slice o K cap] 24 := (Box.new w _ _).alloc _
  have f3 : Box ((w.alloc (.cells #[.int .i64 C, .slice o K cap] 24)).alloc (.cells #[.int .i64 C, .slice p K cap'] 24)) (w.heap.size + 1) #[.int .i64 C, .slice p K cap'] 24 := by have h := Box.new (w.alloc (.cells #[.int .i64 C, .slice o K cap] 24)) #[.int .i64 C, .slice p K cap'] 24; rwa [World.size_alloc] at h
  obtain ⟨S, hS⟩ : ∃ n, w.heap.size = n := ⟨_, rfl⟩
  have HB := Lib.hid f1
  have HA := Lib.hid f2
  have HC := Lib.hid f3
  have HM := Lib.hid hM
  have HM' := Lib.hid hM'
  have HSw := Lib.hid hS
  rw [hS] at HA HC
  unfold mv
  clear hM hM' f1 f2 f3
  go_enter Tryd.func20, Tryd.ntmps20
  go_wp2_with fail
  obtain ⟨W, hW⟩ : ∃ W, (w.alloc (.cells #[.int .i64 C, .slice o K cap] 24)).alloc (.cells #[.int .i64 C, .slice p K cap'] 24) = W := ⟨_, rfl⟩
  have hsz : S + 1 < W.heap.size := by rw [← hW]; simp [hS]
  rw [hW] at HB HA HC ⊢
  have HSz := Lib.hid hsz
  clear hW hsz hS
  go_loopw [5] (fun j wr => ∃ k : Nat, k ≤ K ∧ j = .int .i64 (k : Int) ∧ Below W.heap.size W wr) (fun j _ => K - (intOf j).toNat)
  case atStart => exact ⟨0, by omega, by first | trivial | rfl, Below.refl _ _⟩
  case round =>
    obtain ⟨k, hk, rfl, hbe⟩ := hrel
    have hsz := HSz.out
    have c0 := (HA.out.below hbe (by omega)).cell 1
    have c1 := (HC.out.below hbe (by omega)).cell 1
    by_cases hlt : k < K
    · have hk1 : (k : Int) < (K : Int) := by omega
      obtain ⟨bM, oM, oc, cpc, rfl, hbM, e1, l1⟩ := HM.out.at_ hlt
      obtain ⟨bN, oN, od, cpd, rfl, hbN, e3, l2⟩ := HM'.out.at_ hlt
      have hbs : Below w.heap.size w wr := HB.out.trans (hbe.mono HB.out.size)
      have e2 := (hbs.cell (p := ⟨bM, oM + k, none⟩) hbM).trans e1
      have e4 := (hbs.cell (p := ⟨bN, oN + k, none⟩) hbN).trans e3
      have hsame : ∀ V, Below wr.heap.size wr V → Calls Tryd.prog 50 #[.slice oc (el N (r k)).length cpc, .slice od (el N (r k)).length cpd] V fun e y => e = .returned (.bool true) ∧ Below V.heap.size V y := fun V hV => by
        have hbV := hbs.trans (hV.mono hbs.size)
        have h := samev_any (el N (r k)).length (el N (r k)).length (by have := el_len N (r k); omega) (lz (el N (r k))) (lz (el N (r k))) oc od cpc cpd V (l1.below hbV) (l2.below hbV)
        rw [eqb_self (fun _ _ => rfl)] at h
        exact h
      obtain ⟨n1, hn1⟩ : ∃ n, (el N (r k)).length = n := ⟨_, rfl⟩
      rw [hn1] at hsame e2 e4
      have HSa := Lib.hid hsame
      have hbM' : bM < wr.heap.size := Nat.lt_of_lt_of_le hbM hbs.size
      have hbN' : bN < wr.heap.size := Nat.lt_of_lt_of_le hbN hbs.size
      have hSw : S + 1 < wr.heap.size := by have := hbe.size; omega
      have HZ : Hid (∀ V, Below wr.heap.size wr V → Below wr.heap.size wr V ∧ V.cell? ⟨S, 1, none⟩ = some (.slice (some ⟨bM, oM, none⟩) K cap) ∧ V.cell? ⟨S + 1, 1, none⟩ = some (.slice (some ⟨bN, oN, none⟩) K cap') ∧ V.cell? ⟨bM, oM + k, none⟩ = some (.slice oc n1 cpc) ∧ V.cell? ⟨bN, oN + k, none⟩ = some (.slice od n1 cpd)) := Lib.hid fun V hV => ⟨hV, (hV.cell (p := ⟨S, 1, none⟩) (by show S < _; omega)).trans c0, (hV.cell (p := ⟨S + 1, 1, none⟩) (by show S + 1 < _; omega)).trans c1, (hV.cell (p := ⟨bM, oM + k, none⟩) hbM').trans e2, (hV.cell (p := ⟨bN, oN + k, none⟩) hbN').trans e4⟩
      have HBe := Lib.hid hbe
      clear e1 e3 l1 l2 hn1 hsame hbM hbN hbM' hbN' hSw hbs hsz
      go_wp2_with fail
      go_cut [38] (fun x wx => x = .bool false ∧ Below wr.heap.size wr wx)
      case first =>
        go_region_held3 (fun V => Below wr.heap.size wr V ∧ V.cell? ⟨S, 1, none⟩ = some (.slice (some ⟨bM, oM, none⟩) K cap) ∧ V.cell? ⟨S + 1, 1, none⟩ = some (.slice (some ⟨bN, oN, none⟩) K cap') ∧ V.cell? ⟨bM, oM + k, none⟩ = some (.slice oc n1 cpc) ∧ V.cell? ⟨bN, oN + k, none⟩ = some (.slice od n1 cpd)) (first | exact HZ.out _ (below_dn 1 (Below.refl _ _)) | exact HZ.out _ (Below.refl _ _) | exact HZ.out _ (by assumption)) (first | (go_at_call 50; refine (HSa.out _ (by first | assumption | exact And.left (by assumption))).mono ?_; rintro e y ⟨rfl, hz⟩; have kk1 : Below wr.heap.size wr y := Below.trans (by first | assumption | exact And.left (by assumption)) (Joins.below_le hz (Below.size (by first | assumption | exact And.left (by assumption))))))
        all_goals
          go_wp2_with fail
          go_meet
          exact ⟨rfl, by first | assumption | exact below_dn 1 (by assumption)⟩
      case rest =>
        obtain ⟨rfl, hbc⟩ := hcut
        have HBc := Lib.hid (HBe.out.trans (Joins.below_le hbc HBe.out.size))
        clear hbc
        go_wp2_with fail
        go_roundw
        case rel => exact ⟨k + 1, by omega, by go_num, HBc.out⟩
        case measure => simp [intOf]; omega
    · have e : K = k := by omega
      subst e
      have HBe := Lib.hid (HB.out.trans (hbe.mono HB.out.size))
      clear hlt hsz hbe
      go_wp2_with fail
      go_ret
      exact ⟨rfl, HBe.out⟩

end Go.Proofs.YtbefkngeffpokaaDoor
