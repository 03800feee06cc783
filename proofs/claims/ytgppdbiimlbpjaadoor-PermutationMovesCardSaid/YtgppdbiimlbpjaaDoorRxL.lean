/- PermutationReads. -/
import Derived.Test.YtgppdbiimlbpjaaDoorRxK
import Derived.WalkKit
import Derived.WalkSpells
import Derived.WalkLawsBesides
import Derived.Handy
import Derived.Deep.QuietTactic
import Derived.BigQuiet
import Derived.Outline
import Derived.Laws.BitsAllLaws
import Derived.IntWalk
import Derived.Lib.SmallJoins
import Derived.Lib.Hide
import Derived.Deep.DeepCutAuto
import Derived.LoopTactic
import Derived.Deep.RegionWith
import Derived.Laws.CopyOwn
import Derived.Maps.OwnOps
import Derived.Maps.OwnSet
import Derived.Laws.OwnMore
import Derived.Maps.AppendAt
import Derived.Test.YtgppdbiimlbpjaaDoorShelF
import Derived.RangeFuncNested
import Derived.RangeFuncBound
import Derived.RangeFuncCalls
import Derived.RangeFuncLeaves
import Derived.RangeFuncBox
import Derived.RangeFuncFrom
import Derived.Shelf.Abstract
import Derived.Shelf.RegionOpen
import Derived.OwnWalkIn
import Derived.TacticsInMore
import Derived.LoopNIn
import Derived.LoopIn
import Derived.Test.YtgppdbiimlbpjaaDoorRwT
namespace Go.Proofs.YtgppdbiimlbpjaaDoor
set_option linter.unusedVariables false
set_option linter.unusedSimpArgs false
open Go.RowKit


/-- A text read back. -/
def rd (n : Nat) (s : List Nat) : List Nat := (List.range n).map fun p => if s.idxOf (48 + p) = s.length then p else if s.getD (s.idxOf (48 + p) + 1) 0 = 32 then s.getD (s.idxOf (48 + p) + 2) 0 - 48 else s.getD (((List.range (s.idxOf (48 + p))).filter fun j => s.getD j 0 == 40).getLastD 0 + 1) 0 - 48
theorem rd_fin : ∀ n : Fin 6, ∀ l ∈ pl n.val, rd n.val ((ptx n.val (fun_ l)).data.toList.map UInt8.toNat) = l ∧ (ptx n.val (fun_ l)).size ≤ 24 := by decide +kernel
theorem ptx_inj {n : Nat} (h5 : n ≤ 5) {l m : List Nat} (hl : l ∈ pl n) (hm : m ∈ pl n) (h : ptx n (fun_ l) = ptx n (fun_ m)) : l = m := by
  have h1 := (rd_fin ⟨n, by omega⟩ l hl).1
  have h2 := (rd_fin ⟨n, by omega⟩ m hm).1
  change rd n ((ptx n (fun_ l)).data.toList.map UInt8.toNat) = l at h1
  change rd n ((ptx n (fun_ m)).data.toList.map UInt8.toNat) = m at h2
  rw [← h1, ← h2, h]
theorem ord_fin : ∀ n : Fin 6, ∀ l ∈ pl n.val, (1 ≤ ordl n.val (fun_ l) ∧ ordl n.val (fun_ l) ≤ 6) ∧ idb n.val (fun_ l) (ordl n.val (fun_ l)) = true ∧ ∀ j, j < ordl n.val (fun_ l) → 1 ≤ j → idb n.val (fun_ l) j = false := by decide +kernel
/-- Parse reads the text of a permutation. -/
theorem par_back (n : Nat) (h1 : 1 ≤ n) (h5 : n ≤ 5) (l : List Nat) (hl : l ∈ pl n) (w : World) : Calls Tryd.prog 38 #[.int .i64 (n : Int), .string (ptx n (fun_ l))] w (QRes n (zf (fun_ l)) 0 w) := by
  have hsz : (ptx n (fun_ l)).size ≤ 24 := (rd_fin ⟨n, by omega⟩ l hl).2
  obtain ⟨i, hi, e⟩ := List.mem_iff_getElem.1 hl
  have hk : ∃ k, k < (pl n).length ∧ ptx n (fun_ ((pl n).getD k [])) = ptx n (fun_ l) := ⟨i, hi, by rw [List.getD_eq_getElem?_getD, List.getElem?_eq_getElem hi, Option.getD_some, e]⟩
  obtain ⟨k, hk1, hk2, hk3⟩ := first_of _ _ hk
  have hm : (pl n).getD k [] ∈ pl n := by rw [List.getD_eq_getElem?_getD, List.getElem?_eq_getElem hk1]; exact List.getElem_mem _
  have e2 := ptx_inj h5 hm hl hk2
  refine (par_good n h1 h5 _ hsz k (by omega) hk3 (fun _ => hk2) w).mono fun e w' h => ?_
  have := h.1 hk1
  rwa [e2] at this
set_option maxRecDepth 100000 in
set_option maxHeartbeats 4000000 in
theorem reads_ok (n : Nat) (x : Nat → Int) (o : Option Addr) (cap : Nat) (w : World) (hL : Lq w o n cap x) : Calls Tryd.prog 11 #[.slice o n cap] w fun e w' => e = .returned (.bool true) ∧ Below w.heap.size w w' := by
  have hx : Below w.heap.size w (w.alloc (.cells #[.slice o n cap] 22)) := (Below.refl _ _).alloc (Nat.le_refl _) _
  have HR := Lib.hid (right_any 1 (by decide) (by decide) (fun _ => o) (fun _ => n) (fun _ => cap) (fun _ => x) w.heap.size 1 (w.alloc (.cells #[.slice o n cap] 22)) (by simp) (by
    intro c hc
    obtain rfl : c = 0 := by omega
    exact World.cell?_alloc_mark _ _ _ (0, 0) 0) (fun c _ => hL.1.below hx))
  have La := Lib.hid (hL.below hx)
  have B := Lib.hid hx
  clear hL hx
  go_enter Tryd.func11, Tryd.ntmps11
  go_wp2_with fail
  refine HR.out.mono ?_
  rintro e W0 ⟨⟨r, rfl, hr⟩, hb⟩
  replace La := Lib.hid (La.out.below hb)
  replace B := Lib.hid (B.out.trans (Joins.below_le hb B.out.size))
  clear hb HR
  cases r with
  | false =>
    clear hr La
    go_wp2_with fail
    refine (awake_ok _).mono ?_
    rintro e W1 ⟨rfl, hb⟩
    replace B := Lib.hid (B.out.trans (Joins.below_le hb B.out.size))
    clear hb 
    go_wp2_with fail
    go_ret
    exact ⟨rfl, B.out⟩
  | true =>
    have r0 := (hr rfl 0 (by omega)).1
    clear hr
    obtain ⟨a0, ga0, ea⟩ := good_of r0
    have h1 := ga0.lo
    have h5 := ga0.hi
    have hn1 : n ≤ 1000000 := by omega
    have ma := lo_mem ga0
    have ga := (pl_good h1 h5 ma).2
    replace La := Lib.hid (La.out.as (a := fun_ (lo n a0)) fun i hi => by rw [ea i hi]; unfold zf; rw [lo_at hi])
    have hof : (1 ≤ ordl n (fun_ (lo n a0)) ∧ ordl n (fun_ (lo n a0)) ≤ 6) ∧ idb n (fun_ (lo n a0)) (ordl n (fun_ (lo n a0))) = true ∧ ∀ j, j < ordl n (fun_ (lo n a0)) → 1 ≤ j → idb n (fun_ (lo n a0)) j = false := ord_fin ⟨n, by omega⟩ _ ma
    have hpar := fun W => par_back n h1 h5 _ ma W
    obtain ⟨T, htx⟩ : ∃ T, ptx n (fun_ (lo n a0)) = T := ⟨_, rfl⟩
    rw [htx] at hpar
    have HPar := Lib.hid hpar
    clear ea r0 hpar ma ga0
    generalize fun_ (lo n a0) = a at *
    obtain ⟨O, hO⟩ : ∃ O, ordl n a = O := ⟨_, rfl⟩
    rw [hO] at hof
    obtain ⟨⟨hO1, hO6⟩, hOy, hOn⟩ := hof
    have HOy := Lib.hid hOy
    have HOn := Lib.hid hOn
    have HIt := Lib.hid (fun k => itr_good ga k)
    clear hOy hOn
    go_wp2_with fail
    refine (callsIn_wide.1 (fmt_in n a ga _ _ _ La.out)).mono ?_
    rw [htx]
    rintro e W1 ⟨rfl, hb⟩
    replace La := Lib.hid (La.out.below hb)
    replace B := Lib.hid (B.out.trans (Joins.below_le hb B.out.size))
    clear hb 
    go_wp2_with fail
    refine (HPar.out _).mono ?_
    rintro e W2 ⟨oP, pP, rfl, hl, hb⟩
    replace La := Lib.hid (La.out.below hb)
    replace B := Lib.hid (B.out.trans (Joins.below_le hb B.out.size))
    have Lp := Lib.hid hl
    clear hb hl
    go_wp2_with fail
    refine (ord_good n a ga _ _ _ La.out).mono ?_
    rw [hO]
    rintro e W3 ⟨rfl, hb⟩
    replace La := Lib.hid (La.out.below hb)
    replace Lp := Lib.hid (Lp.out.below hb)
    replace B := Lib.hid (B.out.trans (Joins.below_le hb B.out.size))
    clear hb 
    go_wp2_with fail
    refine (equal_any n n hn1 (zf a) (zf a) _ _ _ _ _ La.out.1 Lp.out.1).mono ?_
    rw [eqb_self (fun _ _ => rfl)]
    rintro e W4 ⟨rfl, hb⟩
    replace La := Lib.hid (La.out.below hb)
    replace Lp := Lib.hid (Lp.out.below hb)
    replace B := Lib.hid (B.out.trans (Joins.below_le hb B.out.size))
    clear hb 
    clear Lp
    go_wp2_with fail
    refine (one_ok n (by omega) _).mono ?_
    rintro e W5 ⟨oO, pO, rfl, hl, hb⟩
    replace La := Lib.hid (La.out.below hb)
    replace B := Lib.hid (B.out.trans (Joins.below_le hb B.out.size))
    have Lx := Lib.hid hl
    clear hb hl
    go_wp2_with fail
    have hWb : ∃ Wb : World, Wb = W5 := ⟨_, rfl⟩
    obtain ⟨Wb, hWb⟩ := hWb
    rw [← hWb] at B La Lx ⊢
    clear hWb
    go_loopw [9, 10] (fun v k wr => ∃ (j : Nat) (ox : Option Addr) (cx : Nat), j ≤ O ∧ k = .int .i64 ((j + 1 : Nat) : Int) ∧ v = .slice ox n cx ∧ Lq wr ox n cx (zf (itr a j)) ∧ Below Wb.heap.size Wb wr) (fun _ k _ => O + 1 - (intOf k).toNat)
    case atStart => exact ⟨0, oO, pO, by omega, by first | trivial | rfl, by first | trivial | rfl, Lx.out, Below.refl _ _⟩
    case round =>
      clear Lx
      obtain ⟨j, ox, cx, hj, rfl, rfl, hlx, hbe⟩ := hrel
      have HLx := Lib.hid hlx
      have HBe := Lib.hid hbe
      have HLa := Lib.hid (La.out.below hbe)
      clear hlx hbe
      by_cases hjO : j < O
      · have HC := Lib.hid (comp_good n a (itr a j) ga (HIt.out j) _ _ _ _ _ HLa.out HLx.out)
        have HB2 : Hid (∀ W, Below Wb.heap.size Wb W → ∀ W', Below W.heap.size W W' → Below Wb.heap.size Wb W') := Lib.hid fun W h W' h' => h.trans (Joins.below_le h' h.size)
        have hj1 : ((j + 1 : Nat) : Int) ≤ (O : Int) := by omega
        have hj2 : decide (j + 1 ≤ O) = true := decide_eq_true (by omega)
        have hj3 : (j : Int) + 1 ≤ (O : Int) := by omega
        have HEq := Lib.hid (fun W o1 o2 c1 c2 (h : Lz W o1 n (zf (itr a (j + 1)))) (h' : Lz W o2 n (zf fun i => i)) => by have := equal_any n n hn1 (zf (itr a (j + 1))) (zf fun i => i) o1 o2 c1 c2 W h h'; rwa [eqb_idb] at this)
        by_cases hlast : j + 1 = O
        · have hi : idb n a (j + 1) = true := by rw [hlast]; exact HOy.out
          rw [hi] at HEq
          have g1 : ((j : Int) + 1 == (O : Int)) = true := by rw [beq_iff_eq]; omega
          have g2 : (j + 1 == O) = true := by rw [beq_iff_eq]; omega
          have HLast := Lib.hid hlast
          clear hlast hi
          go_wp2_with fail
          refine HC.out.mono ?_
          rintro e w1 ⟨o1, c1, rfl, hq1, hb1⟩
          have HQ1 := Lib.hid hq1
          have HB1 := Lib.hid (HB2.out _ HBe.out _ hb1)
          clear hq1 hb1
          go_wp2_with fail
          refine (one_ok n (by omega) _).mono ?_
          rintro e w2 ⟨o2, c2, rfl, hq2, hb2⟩
          have HQ2 := Lib.hid hq2
          have HQ1' := Lib.hid (HQ1.out.below hb2)
          have HB3 := Lib.hid (HB2.out _ HB1.out _ hb2)
          clear hq2 hb2
          go_wp2_with fail
          refine (HEq.out _ _ _ _ _ HQ1'.out.1 HQ2.out.1).mono ?_
          rintro e w3 ⟨rfl, hb3⟩
          have HQ3 := Lib.hid (HQ1'.out.below hb3)
          have HB4 := Lib.hid (HB2.out _ HB3.out _ hb3)
          clear hb3
          go_wp2_with fail
          go_roundw
          case rel => exact ⟨j + 1, o1, c1, by omega, by go_num, by first | trivial | rfl, HQ3.out, HB4.out⟩
          case measure => simp [intOf]; omega
        · have hi : idb n a (j + 1) = false := HOn.out (j + 1) (by omega) (by omega)
          rw [hi] at HEq
          have g1 : ((j : Int) + 1 == (O : Int)) = false := by rw [beq_eq_false_iff_ne]; omega
          have g2 : (j + 1 == O) = false := by rw [beq_eq_false_iff_ne]; omega
          clear hlast hi
          go_wp2_with fail
          refine HC.out.mono ?_
          rintro e w1 ⟨o1, c1, rfl, hq1, hb1⟩
          have HQ1 := Lib.hid hq1
          have HB1 := Lib.hid (HB2.out _ HBe.out _ hb1)
          clear hq1 hb1
          go_wp2_with fail
          refine (one_ok n (by omega) _).mono ?_
          rintro e w2 ⟨o2, c2, rfl, hq2, hb2⟩
          have HQ2 := Lib.hid hq2
          have HQ1' := Lib.hid (HQ1.out.below hb2)
          have HB3 := Lib.hid (HB2.out _ HB1.out _ hb2)
          clear hq2 hb2
          go_wp2_with fail
          refine (HEq.out _ _ _ _ _ HQ1'.out.1 HQ2.out.1).mono ?_
          rintro e w3 ⟨rfl, hb3⟩
          have HQ3 := Lib.hid (HQ1'.out.below hb3)
          have HB4 := Lib.hid (HB2.out _ HB3.out _ hb3)
          clear hb3
          go_wp2_with fail
          go_roundw
          case rel => exact ⟨j + 1, o1, c1, by omega, by go_num, by first | trivial | rfl, HQ3.out, HB4.out⟩
          case measure => simp [intOf]; omega
      · have hjO2 : j = O := by omega
        subst hjO2
        have hj1 : ¬ ((j + 1 : Nat) : Int) ≤ (j : Int) := by omega
        have hj2 : decide (j + 1 ≤ j) = false := decide_eq_false (by omega)
        have hj3 : ¬ (j : Int) + 1 ≤ (j : Int) := by omega
        have HBf := Lib.hid (B.out.trans (Joins.below_le HBe.out B.out.size))
        clear hjO
        go_wp2_with fail
        refine (awake_ok _).mono ?_
        rintro e W7 ⟨rfl, hb⟩
        have HBg := Lib.hid (HBf.out.trans (Joins.below_le hb HBf.out.size))
        clear hb
        go_wp2_with fail
        go_ret
        exact ⟨rfl, HBg.out⟩

end Go.Proofs.YtgppdbiimlbpjaaDoor
