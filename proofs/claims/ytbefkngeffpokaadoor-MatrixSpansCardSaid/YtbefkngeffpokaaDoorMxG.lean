/- The specification's Has, Odd, Plus and Sum. -/
import Derived.Test.YtbefkngeffpokaaDoorMxD
import Derived.WalkKit
import Derived.WalkSpells
import Derived.WalkLawsBesides
import Derived.Handy
import Derived.Deep.QuietTactic
import Derived.BigQuiet
import Derived.Outline
import Derived.Laws.BitsAllLaws
import Derived.IntWalk
import Derived.Lib.SmallJoins
import Derived.Lib.Hide
import Derived.Deep.DeepCutAuto
import Derived.LoopTactic
import Derived.Deep.RegionWith
import Derived.Laws.CopyOwn
import Derived.Maps.OwnOps
import Derived.Maps.OwnSet
import Derived.Laws.OwnMore
import Derived.Maps.AppendAt
import Derived.RangeFuncNested
import Derived.RangeFuncBound
import Derived.RangeFuncCalls
import Derived.RangeFuncLeaves
import Derived.RangeFuncBox
import Derived.RangeFuncFrom
import Derived.Shelf.Abstract
import Derived.Shelf.RegionOpen
import Derived.OwnWalkIn
import Derived.TacticsInMore
import Derived.LoopNIn
import Derived.LoopIn
import Derived.Deep.RegionHeld3
import Derived.RegionTactic
import Derived.ChangeAlike
namespace Go.Proofs.YtbefkngeffpokaaDoor
set_option linter.unusedVariables false
set_option linter.unusedSimpArgs false
open Go.RowKit


set_option maxHeartbeats 1000000 in
theorem has_mem (l : List Nat) (hlen : l.length ≤ 1000000) (n : Nat) (o : Option Addr) (cap : Nat) (w : World) (hL : Lz w o l.length (lz l)) :
    Calls Tryd.prog 65 #[.slice o l.length cap, .int .i64 (n : Int)] w fun e w' => e = .returned (.bool (decide (n ∈ l))) ∧ w = w' := by
  obtain ⟨r, hr⟩ : ∃ r, decide (n ∈ l) = r := ⟨_, rfl⟩
  rw [hr]
  have HR := Lib.hid hr
  have HL := Lib.hid hL
  obtain ⟨m, hm⟩ : ∃ m, l.length = m := ⟨_, rfl⟩
  rw [hm] at HL hlen ⊢
  have Hm := Lib.hid hm
  clear hL hr hm
  go_enter Tryd.func65, Tryd.ntmps65
  go_wp2_with fail
  go_loop [5] (fun j => ∃ i : Nat, i ≤ m ∧ j = .int .i64 (i : Int) ∧ n ∉ l.take i) (fun j => m - (intOf j).toNat)
  case atStart => exact ⟨0, by omega, by first | trivial | rfl, by simp⟩
  case round =>
    obtain ⟨i, hi, rfl, hno⟩ := hrel
    have HNo := Lib.hid hno
    clear hno
    by_cases hlt : i < m
    · have hi1 : (i : Int) < (m : Int) := by omega
      obtain ⟨g, off, rfl, hg, hc⟩ := HL.out (by omega)
      have c1 := hc i hlt
      have hts := take_snoc (l := l) (k := i) (by have := Hm.out; omega)
      have hmem : l.getD i 0 ∈ l := by
        rw [List.getD_eq_getElem?_getD, List.getElem?_eq_getElem (by have := Hm.out; omega)]
        exact List.getElem_mem _
      unfold lz at c1
      obtain ⟨x, hx⟩ : ∃ x, l.getD i 0 = x := ⟨_, rfl⟩
      rw [hx] at c1 hts hmem
      clear hc hx
      by_cases e : x = n
      · subst e
        have h0 : r = true := by rw [← HR.out]; exact decide_eq_true hmem
        subst h0
        clear hts hmem
        go_wp2_with fail
        go_ret
        exact ⟨rfl, rfl⟩
      · have g1 : (x == n) = false := by simpa using e
        have g2 : ((x : Int) == (n : Int)) = false := by rw [beq_eq_false_iff_ne]; omega
        have HNx : Hid (n ∉ l.take (i + 1)) := Lib.hid (by
          rw [hts, List.mem_append, List.mem_singleton]
          rintro (h | h)
          · exact HNo.out h
          · exact e h.symm)
        clear hts hmem e
        go_wp2_with fail
        go_round
        case rel => exact ⟨i + 1, by omega, by go_num, HNx.out⟩
        case measure => simp [intOf]; omega
    · have e : i = m := by omega
      subst e
      have h0 : r = false := by
        rw [← HR.out]
        have := HNo.out
        rw [← Hm.out, List.take_length] at this
        exact decide_eq_false this
      subst h0
      clear hlt
      go_wp2_with fail
      go_ret
      exact ⟨rfl, rfl⟩
set_option maxHeartbeats 1000000 in
theorem rodd_ok (x C : Nat) (l : List Nat) (hl : ∀ i, i ∈ l → i < C) (hlen : l.length ≤ 1000000) (hC : C ≤ 1000000) (o p : Option Addr) (cap cap' : Nat) (w : World) (hL : Lz w o l.length (lz l)) (hL' : Lz w p (el C x).length (lz (el C x))) :
    Calls Tryd.prog 62 #[.slice o l.length cap, .slice p (el C x).length cap'] w fun e w' => e = .returned (.bool (odl x l)) ∧ w = w' := by
  have HH : Hid (∀ n, n < C → Calls Tryd.prog 65 #[.slice p (el C x).length cap', .int .i64 (n : Int)] w fun e w' => e = .returned (.bool (x.testBit n)) ∧ w = w') := Lib.hid fun n hn => by
    have := has_mem (el C x) (by have := el_len C x; omega) n p cap' w hL'
    have e : decide (n ∈ el C x) = x.testBit n := by
      rw [Bool.eq_iff_iff, decide_eq_true_iff, el_mem]
      exact ⟨fun h => h.2, fun h => ⟨hn, h⟩⟩
    rwa [e] at this
  have HL := Lib.hid hL
  have HLt := Lib.hid hl
  obtain ⟨m, hm⟩ : ∃ m, l.length = m := ⟨_, rfl⟩
  rw [hm] at HL hlen ⊢
  have Hm := Lib.hid hm
  obtain ⟨mb, hmb⟩ : ∃ m, (el C x).length = m := ⟨_, rfl⟩
  rw [hmb] at HH ⊢
  clear hL hl hm hL' hmb
  go_enter Tryd.func62, Tryd.ntmps62
  go_wp2_with fail
  go_loop [5, 6] (fun v j => ∃ k : Nat, k ≤ m ∧ j = .int .i64 (k : Int) ∧ v = .bool (odl x (l.take k))) (fun _ j => m - (intOf j).toNat)
  case atStart => exact ⟨0, by omega, by first | trivial | rfl, rfl⟩
  case round =>
    obtain ⟨k, hk, rfl, rfl⟩ := hrel
    by_cases hlt : k < m
    · have hk1 : (k : Int) < (m : Int) := by omega
      obtain ⟨g, off, rfl, hg, hc⟩ := HL.out (by omega)
      have c1 := hc k hlt
      have hmem : l.getD k 0 ∈ l := by
        rw [List.getD_eq_getElem?_getD, List.getElem?_eq_getElem (by have := Hm.out; omega)]
        exact List.getElem_mem _
      have hi := HLt.out _ hmem
      have hts := take_snoc (l := l) (k := k) (by have := Hm.out; omega)
      unfold lz at c1
      obtain ⟨i, hi2⟩ : ∃ i, l.getD k 0 = i := ⟨_, rfl⟩
      rw [hi2] at c1 hi hts
      have HF := Lib.hid (HH.out i hi)
      have hod := odl_snoc x i (l.take k)
      rw [← hts] at hod
      have HOd := Lib.hid hod
      obtain ⟨p, hp⟩ : ∃ p, odl x (l.take k) = p := ⟨_, rfl⟩
      obtain ⟨q, hq⟩ : ∃ q, x.testBit i = q := ⟨_, rfl⟩
      rw [hp, hq] at HOd
      rw [hq] at HF
      rw [hp]
      clear hc hmem hts hi2 hod hp hq
      cases q with
      | true =>
        go_wp2_with fail
        refine HF.out.mono ?_
        rintro e w1 ⟨rfl, rfl⟩
        go_wp2_with fail
        go_round
        case rel => exact ⟨k + 1, by omega, by go_num, by rw [HOd.out]; cases p <;> rfl⟩
        case measure => simp [intOf]; omega
      | false =>
        go_wp2_with fail
        refine HF.out.mono ?_
        rintro e w1 ⟨rfl, rfl⟩
        go_wp2_with fail
        go_round
        case rel => exact ⟨k + 1, by omega, by go_num, by rw [HOd.out]; cases p <;> rfl⟩
        case measure => simp [intOf]; omega
    · have e : k = m := by omega
      subst e
      have htk : l.take k = l := by rw [← Hm.out, List.take_length]
      rw [htk]
      clear hlt htk
      go_wp2_with fail
      go_ret
      exact ⟨rfl, rfl⟩
theorem plus_len : ∀ (n : Nat) (a b : List Nat), a.length + b.length ≤ n → (plus a b).length ≤ n
  | n, [], b, h => by rw [nil_plus]; simpa using h
  | n, x :: a, [], h => by rw [plus_nil]; simpa using h
  | 0, x :: a, y :: b, h => by simp at h
  | n + 1, x :: a, y :: b, h => by
    rw [plus_step]
    simp only [List.length_cons] at h
    by_cases h1 : x < y
    · rw [if_pos h1, List.length_cons]
      have := plus_len n a (y :: b) (by simp; omega)
      omega
    · rw [if_neg h1]
      by_cases h2 : y < x
      · rw [if_pos h2, List.length_cons]
        have := plus_len n (x :: a) b (by simp; omega)
        omega
      · rw [if_neg h2]
        have := plus_len n a b (by omega)
        omega
theorem Row.drewN {w : World} {R : Nat} {v : Value} {l : List Int} (h : Row w R v l) (n : Nat) : Row (w.drewN n) R v l := h
theorem drop_at {l : List Nat} {i : Nat} (h : i < l.length) : l.drop i = l.getD i 0 :: l.drop (i + 1) := by
  rw [List.drop_eq_getElem_cons h, List.getD_eq_getElem?_getD, List.getElem?_eq_getElem h]
  rfl
set_option maxRecDepth 100000 in
set_option maxHeartbeats 8000000 in
theorem plus_ok (a b : List Nat) (hab : a.length + b.length ≤ 1000) (o p : Option Addr) (cap cap' : Nat) (w : World) (hL : Lz w o a.length (lz a)) (hL' : Lz w p b.length (lz b)) :
    Calls Tryd.prog 38 #[.slice o a.length cap, .slice p b.length cap'] w fun e w' => ∃ v, e = .returned v ∧ Row w' w.heap.size v (ints (plus a b)) ∧ Below w.heap.size w w' := by
  have HL := Lib.hid hL
  have HL' := Lib.hid hL'
  obtain ⟨la, hla⟩ : ∃ m, a.length = m := ⟨_, rfl⟩
  obtain ⟨lb, hlb⟩ : ∃ m, b.length = m := ⟨_, rfl⟩
  rw [hla] at HL hab ⊢
  rw [hlb] at HL' hab ⊢
  have Hla := Lib.hid hla
  have Hlb := Lib.hid hlb
  clear hL hL' hla hlb
  go_enter Tryd.func38, Tryd.ntmps38
  go_wp2_with fail
  go_loopw [5, 6, 7] (fun v i j wr => ∃ (x y : Nat) (pre : List Nat), x ≤ la ∧ y ≤ lb ∧ i = .int .i64 (x : Int) ∧ j = .int .i64 (y : Int) ∧ Row wr w.heap.size v (ints pre) ∧ pre.length ≤ x + y ∧ pre ++ plus (a.drop x) (b.drop y) = plus a b ∧ Below w.heap.size w wr) (fun _ i j _ => (la - (intOf i).toNat) + (lb - (intOf j).toNat))
  case atStart => exact ⟨0, 0, [], by omega, by omega, by first | trivial | rfl, by first | trivial | rfl, Row.nil _ _, by simp, by simp, Below.refl _ _⟩
  case round =>
    obtain ⟨x, y, pre, hx, hy, rfl, rfl, hrw, hpl, hst, hbe⟩ := hrel
    by_cases hxa : x < la
    · obtain ⟨ga, oa, rfl, hga, hca⟩ := HL.out (by omega)
      have ca := (hbe.cell (p := ⟨ga, oa + x, none⟩) hga).trans (hca x hxa)
      have hda0 := drop_at (show x < a.length by rw [Hla.out]; exact hxa)
      rw [hda0] at hst
      have i1 : (x : Int) < (la : Int) := by omega
      have i2 : decide (x < la) = true := decide_eq_true hxa
      have i3 : (x == la) = false := by rw [beq_eq_false_iff_ne]; omega
      have i4 : ((x : Int) == (la : Int)) = false := by rw [beq_eq_false_iff_ne]; omega
      unfold lz at ca
      obtain ⟨p, hp⟩ : ∃ p, a.getD x 0 = p := ⟨_, rfl⟩
      rw [hp] at ca hst hda0
      have hda := hda0.symm
      clear hca hp hda0
      by_cases hyb : y < lb
      · obtain ⟨gb, ob, rfl, hgb, hcb⟩ := HL'.out (by omega)
        have cb := (hbe.cell (p := ⟨gb, ob + y, none⟩) hgb).trans (hcb y hyb)
        have hdb0 := drop_at (show y < b.length by rw [Hlb.out]; exact hyb)
        rw [hdb0, plus_step] at hst
        have j1 : (y : Int) < (lb : Int) := by omega
        have j2 : decide (y < lb) = true := decide_eq_true hyb
        have j3 : (y == lb) = false := by rw [beq_eq_false_iff_ne]; omega
        have j4 : ((y : Int) == (lb : Int)) = false := by rw [beq_eq_false_iff_ne]; omega
        unfold lz at cb
        obtain ⟨q, hq⟩ : ∃ q, b.getD y 0 = q := ⟨_, rfl⟩
        rw [hq] at cb hst hdb0
        have hdb := hdb0.symm
        clear hcb hq hdb0
        by_cases h1 : p < q
        · rw [if_pos h1, hdb] at hst
          have k1 : (p : Int) < (q : Int) := by omega
          have k2 : decide (p < q) = true := decide_eq_true h1
          have HSt := Lib.hid hst
          obtain ⟨pm, hpm⟩ : ∃ m, (ints pre).length = m := ⟨_, rfl⟩
          obtain ⟨ov, cv, rfl, _⟩ := hrw.shape' hpm
          have HPm := Lib.hid hpm
          have HPl := Lib.hid (show (ints pre).length ≤ 1000000 by rw [ints_len]; omega)
          have HRw := Lib.hid hrw
          have HBe := Lib.hid hbe
          have HSz0 := Lib.hid hbe.size
          clear hst hpm hrw hbe
          clear hda hdb h1
          go_wp2_with fail
          go_quiet (fail)
          go_wp2_with (at_builtin; refine app_int _ rfl _ _ rfl w.heap.size _ _ rfl ((HRw.out.drewN _).alloc _) _ (p : Int) rfl (World.cell?_alloc_mark _ #[_] 3 (0, 0) 0) HPl.out (by have := HSz0.out; simp; omega) ?_; intro gg cv2 w2 hr2 hbb2 hgg; have HR2 := Lib.hid hr2; have HBB := Lib.hid (((below_dn _ HBe.out).alloc HSz0.out _).trans hbb2); clear hr2 hbb2)
          go_roundw
          case rel => exact ⟨x + 1, y, pre ++ [p], by omega, by omega, by go_num, rfl, by rw [ints_snoc]; exact HR2.out, by simp; omega, by rw [List.append_assoc]; exact HSt.out, HBB.out⟩
          case measure => simp [intOf]; omega
        · rw [if_neg h1] at hst
          have k1 : ¬ (p : Int) < (q : Int) := by omega
          have k2 : decide (p < q) = false := decide_eq_false h1
          by_cases h2 : q < p
          · rw [if_pos h2, hda] at hst
            have k3 : (q : Int) < (p : Int) := by omega
            have k4 : decide (q < p) = true := decide_eq_true h2
            have HSt := Lib.hid hst
            obtain ⟨pm, hpm⟩ : ∃ m, (ints pre).length = m := ⟨_, rfl⟩
            obtain ⟨ov, cv, rfl, _⟩ := hrw.shape' hpm
            have HPm := Lib.hid hpm
            have HPl := Lib.hid (show (ints pre).length ≤ 1000000 by rw [ints_len]; omega)
            have HRw := Lib.hid hrw
            have HBe := Lib.hid hbe
            have HSz0 := Lib.hid hbe.size
            clear hst hpm hrw hbe
            clear hda hdb h1 h2
            go_wp2_with fail
            go_quiet (fail)
            go_wp2_with fail
            go_quiet (fail)
            go_wp2_with (at_builtin; refine app_int _ rfl _ _ rfl w.heap.size _ _ rfl ((HRw.out.drewN _).alloc _) _ (q : Int) rfl (World.cell?_alloc_mark _ #[_] 3 (0, 0) 0) HPl.out (by have := HSz0.out; simp; omega) ?_; intro gg cv2 w2 hr2 hbb2 hgg; have HR2 := Lib.hid hr2; have HBB := Lib.hid (((below_dn _ HBe.out).alloc HSz0.out _).trans hbb2); clear hr2 hbb2)
            go_roundw
            case rel => exact ⟨x, y + 1, pre ++ [q], by omega, by omega, rfl, by go_num, by rw [ints_snoc]; exact HR2.out, by simp; omega, by rw [List.append_assoc]; exact HSt.out, HBB.out⟩
            case measure => simp [intOf]; omega
          · rw [if_neg h2] at hst
            have k3 : ¬ (q : Int) < (p : Int) := by omega
            have k4 : decide (q < p) = false := decide_eq_false h2
            have HSt := Lib.hid hst
            obtain ⟨pm, hpm⟩ : ∃ m, (ints pre).length = m := ⟨_, rfl⟩
            obtain ⟨ov, cv, rfl, _⟩ := hrw.shape' hpm
            have HPm := Lib.hid hpm
            have HPl := Lib.hid (show (ints pre).length ≤ 1000000 by rw [ints_len]; omega)
            have HRw := Lib.hid hrw
            have HBe := Lib.hid hbe
            have HSz0 := Lib.hid hbe.size
            clear hst hpm hrw hbe
            clear hda hdb h1 h2
            go_wp2_with fail
            go_quiet (fail)
            go_wp2_with fail
            go_quiet (fail)
            go_wp2_with fail
            go_roundw
            case rel => exact ⟨x + 1, y + 1, pre, by omega, by omega, by go_num, by go_num, HRw.out.drewN _, by omega, HSt.out, below_dn _ HBe.out⟩
            case measure => simp [intOf]; omega
      · have hye : y = lb := by omega
        have hdn : b.drop y = [] := List.drop_eq_nil_of_le (by rw [Hlb.out]; omega)
        rw [hdn, plus_nil] at hst
        have hst2 : pre ++ p :: plus (a.drop (x + 1)) (b.drop y) = plus a b := by rw [hdn, plus_nil]; exact hst
        have j1 : ¬ (y : Int) < (lb : Int) := by omega
        have j2 : decide (y < lb) = false := decide_eq_false hyb
        have j3 : (y == lb) = true := by rw [beq_iff_eq]; exact hye
        have j4 : ((y : Int) == (lb : Int)) = true := by rw [beq_iff_eq]; omega
        clear hst hdn hye
        have hst := hst2
        have HSt := Lib.hid hst
        obtain ⟨pm, hpm⟩ : ∃ m, (ints pre).length = m := ⟨_, rfl⟩
        obtain ⟨ov, cv, rfl, _⟩ := hrw.shape' hpm
        have HPm := Lib.hid hpm
        have HPl := Lib.hid (show (ints pre).length ≤ 1000000 by rw [ints_len]; omega)
        have HRw := Lib.hid hrw
        have HBe := Lib.hid hbe
        have HSz0 := Lib.hid hbe.size
        clear hst hpm hrw hbe
        clear hda hst2 hyb
        go_wp2_with fail
        go_quiet (fail)
        go_wp2_with (at_builtin; refine app_int _ rfl _ _ rfl w.heap.size _ _ rfl ((HRw.out.drewN _).alloc _) _ (p : Int) rfl (World.cell?_alloc_mark _ #[_] 3 (0, 0) 0) HPl.out (by have := HSz0.out; simp; omega) ?_; intro gg cv2 w2 hr2 hbb2 hgg; have HR2 := Lib.hid hr2; have HBB := Lib.hid (((below_dn _ HBe.out).alloc HSz0.out _).trans hbb2); clear hr2 hbb2)
        go_roundw
        case rel => exact ⟨x + 1, y, pre ++ [p], by omega, by omega, by go_num, rfl, by rw [ints_snoc]; exact HR2.out, by simp; omega, by rw [List.append_assoc]; exact HSt.out, HBB.out⟩
        case measure => simp [intOf]; omega
    · have hxe : x = la := by omega
      have hdn : a.drop x = [] := List.drop_eq_nil_of_le (by rw [Hla.out]; omega)
      rw [hdn, nil_plus] at hst
      have i1 : ¬ (x : Int) < (la : Int) := by omega
      have i2 : decide (x < la) = false := decide_eq_false hxa
      have i3 : (x == la) = true := by rw [beq_iff_eq]; exact hxe
      have i4 : ((x : Int) == (la : Int)) = true := by rw [beq_iff_eq]; omega
      by_cases hyb : y < lb
      · obtain ⟨gb, ob, rfl, hgb, hcb⟩ := HL'.out (by omega)
        have cb := (hbe.cell (p := ⟨gb, ob + y, none⟩) hgb).trans (hcb y hyb)
        rw [drop_at (show y < b.length by rw [Hlb.out]; exact hyb)] at hst
        have j1 : (y : Int) < (lb : Int) := by omega
        have j2 : decide (y < lb) = true := decide_eq_true hyb
        have j3 : (y == lb) = false := by rw [beq_eq_false_iff_ne]; omega
        have j4 : ((y : Int) == (lb : Int)) = false := by rw [beq_eq_false_iff_ne]; omega
        unfold lz at cb
        obtain ⟨q, hq⟩ : ∃ q, b.getD y 0 = q := ⟨_, rfl⟩
        rw [hq] at cb hst
        have hst2 : pre ++ q :: plus (a.drop x) (b.drop (y + 1)) = plus a b := by rw [hdn, nil_plus]; exact hst
        clear hst hdn hxe hcb hq
        have hst := hst2
        have HSt := Lib.hid hst
        obtain ⟨pm, hpm⟩ : ∃ m, (ints pre).length = m := ⟨_, rfl⟩
        obtain ⟨ov, cv, rfl, _⟩ := hrw.shape' hpm
        have HPm := Lib.hid hpm
        have HPl := Lib.hid (show (ints pre).length ≤ 1000000 by rw [ints_len]; omega)
        have HRw := Lib.hid hrw
        have HBe := Lib.hid hbe
        have HSz0 := Lib.hid hbe.size
        clear hst hpm hrw hbe
        clear hst2 hxa hyb
        go_wp2_with fail
        go_quiet (fail)
        go_wp2_with fail
        go_quiet (fail)
        go_wp2_with (at_builtin; refine app_int _ rfl _ _ rfl w.heap.size _ _ rfl ((HRw.out.drewN _).alloc _) _ (q : Int) rfl (World.cell?_alloc_mark _ #[_] 3 (0, 0) 0) HPl.out (by have := HSz0.out; simp; omega) ?_; intro gg cv2 w2 hr2 hbb2 hgg; have HR2 := Lib.hid hr2; have HBB := Lib.hid (((below_dn _ HBe.out).alloc HSz0.out _).trans hbb2); clear hr2 hbb2)
        go_roundw
        case rel => exact ⟨x, y + 1, pre ++ [q], by omega, by omega, rfl, by go_num, by rw [ints_snoc]; exact HR2.out, by simp; omega, by rw [List.append_assoc]; exact HSt.out, HBB.out⟩
        case measure => simp [intOf]; omega
      · have hdb : b.drop y = [] := List.drop_eq_nil_of_le (by rw [Hlb.out]; omega)
        rw [hdb, List.append_nil] at hst
        subst hst
        have j1 : ¬ (y : Int) < (lb : Int) := by omega
        have j2 : decide (y < lb) = false := decide_eq_false hyb
        have HRw := Lib.hid hrw
        have HBe := Lib.hid hbe
        clear hdb hdn hxe hxa hyb hrw hbe
        go_wp2_with fail
        go_ret
        exact ⟨_, rfl, HRw.out, HBe.out⟩

end Go.Proofs.YtbefkngeffpokaaDoor
