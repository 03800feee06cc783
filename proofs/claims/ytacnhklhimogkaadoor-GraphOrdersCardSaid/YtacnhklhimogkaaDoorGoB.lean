/- The walk of roundtablelaw03.GraphOrders for whatever three graphs. -/
import Derived.Test.YtacnhklhimogkaaDoorGoA
import Derived.Test.YtacnhklhimogkaaDoorGsB
import Derived.Test.YtacnhklhimogkaaDoorPaD
import Derived.Test.YtacnhklhimogkaaDoorFoB
import Derived.Test.YtacnhklhimogkaaDoorTxM
import Derived.Deep.MidRow
import Derived.Deep.DeepCutAuto
import Derived.Deep.RegionWith
import Derived.Deep.RegionHeld3
import Derived.Test.YtacnhklhimogkaaDoorGcB
import Derived.Test.YtacnhklhimogkaaDoorGrN
import Derived.Test.YtacnhklhimogkaaDoorPmA
import Derived.Test.YtacnhklhimogkaaDoorPmM
import Derived.Test.YtacnhklhimogkaaDoorPmD
import Derived.Test.YtacnhklhimogkaaDoorGrR
import Derived.Test.YtacnhklhimogkaaDoorTb
import Derived.LoopTactic
import Derived.Deep.RegionWith
import Derived.WalkKit
import Derived.WalkSpells
import Derived.WalkLawsBesides
import Derived.Handy
import Derived.Deep.QuietTactic
import Derived.BigQuiet
import Derived.Outline
import Derived.Laws.BitsAllLaws
import Derived.IntWalk
import Derived.Lib.SmallJoins
import Derived.Lib.Hide
namespace Go.Proofs.YtacnhklhimogkaaDoor
set_option linter.unusedVariables false
set_option linter.unusedSimpArgs false
open Go.RowKit

/-- Three blocks with the three graphs. -/
def LaidI3 (na nb nc : Int) (a b c : Nat → Int) (w : World) (p q r : Value) (wx : World) : Prop :=
  ∃ A B C : Nat, (p = .pointer (some ⟨A, 0, none⟩) ∧ q = .pointer (some ⟨B, 0, none⟩) ∧ r = .pointer (some ⟨C, 0, none⟩)) ∧ Box wx A #[.int .i64 na, .int .i64 (a 0), .int .i64 (a 1), .int .i64 (a 2), .int .i64 (a 3), .int .i64 (a 4)] 24 ∧ Box wx B #[.int .i64 nb, .int .i64 (b 0), .int .i64 (b 1), .int .i64 (b 2), .int .i64 (b 3), .int .i64 (b 4)] 24 ∧ Box wx C #[.int .i64 nc, .int .i64 (c 0), .int .i64 (c 1), .int .i64 (c 2), .int .i64 (c 3), .int .i64 (c 4)] 24 ∧ Below w.heap.size w wx
theorem Box.g6 {w : World} {b : Nat} {c : Array Value} {t : TypeId} (h : Box w b c t) : G6 w b c := ⟨h.lt, h.cell⟩
theorem Box.new' {w : World} {n : Nat} (hn : n = w.heap.size) (c : Array Value) (t : TypeId) : Box (w.alloc (.cells c t)) n c t := by subst hn; exact Box.new w c t

theorem run_neq_j (na nb : Int) (a b : Nat → Int) (w : World) :
    (binOp .neq 24 (.agg #[.int .i64 na, .int .i64 (a 0), .int .i64 (a 1), .int .i64 (a 2), .int .i64 (a 3), .int .i64 (a 4)]) (.agg #[.int .i64 nb, .int .i64 (b 0), .int .i64 (b 1), .int .i64 (b 2), .int .i64 (b 3), .int .i64 (b 4)])).run Tryd.prog w = .ok (.bool (!geqI na nb a b)) w := by
  rw [run_neq_struct, run_eqin_i]
  rfl
/-- What a well-formed graph's calls answer. -/
theorem parse_gtx {N : Nat} {a : Nat → Nat} (ha : WF N a) (m : Int) (w : World) (hw : 0 < w.heap.size) (hm : w.cell? ⟨0, 0, none⟩ = some (.int .i64 m)) :
    Calls Tryd.prog 29 #[.string (gtx N a)] w fun e w' => e = .returned (.tuple #[gv N a, .int .i64 0]) ∧ Below w.heap.size w w' := by
  have ht := gtx_isText ha
  have e1 := (gtx_split ha).1
  have hsz : (gtx N a).size < 4294967281 := by
    have h1 := gtx_list ha.1.2 a
    have h2 := jn_len N a N
    have h3 : N * (N + 1) ≤ 5 * 6 := Nat.mul_le_mul ha.1.2 (by have := ha.1.2; omega)
    have h4 : (gtx N a).size = (gtx N a).data.toList.length := Array.length_toList.symm
    rw [h4, h1]
    show (jn N a N).length < _
    omega
  refine (parse_few _ m w hw hm hsz (by rw [e1]; exact ha.1.2)).mono ?_
  rintro e w' ⟨h | h, hb⟩
  · refine ⟨?_, hb⟩
    rw [h.2, e1]
    unfold gv
    rw [gtx_prt ha (show 0 < 5 by omega), gtx_prt ha (show 1 < 5 by omega), gtx_prt ha (show 2 < 5 by omega), gtx_prt ha (show 3 < 5 by omega), gtx_prt ha (show 4 < 5 by omega)]
  · exact absurd ht h.1

set_option maxRecDepth 100000 in
set_option maxHeartbeats 16000000 in
theorem orders_any (na nb nc : Int) (a b c : Nat → Int) (ra : Rng a) (rb : Rng b) (rc : Rng c) (m0 : Int) (w : World) (hw : 0 < w.heap.size) (hm0 : w.cell? ⟨0, 0, none⟩ = some (.int .i64 m0))
    (awake_ok : ∀ w, Calls Tryd.prog 16 #[] w fun e w' => e = .returned (.bool true) ∧ Below w.heap.size w w') :
    Calls Tryd.prog 7 #[iv3 na nb nc a b c] w fun e w' => e = .returned (.bool true) ∧ Below w.heap.size w w' := by
  have HW := Lib.hid awake_ok
  have Hm := Lib.hid hm0
  have HX := Lib.hid (fun w => compare_any na nb a b w)
  have HY := Lib.hid (fun w => compare_any nb nc b c w)
  have HZ := Lib.hid (fun w => compare_any na nc a c w)
  have HR := Lib.hid (fun w => compare_any nb na b a w)
  have hx3 := gcmp_three na nb a b
  have Htr := Lib.hid (gcmp_trans (na := na) (nb := nb) (nc := nc) (a := a) (b := b) (c := c))
  have hze := gcmp_zero (na := na) (nb := nb) (a := a) (b := b)
  have heqI := fun w => run_eql_i na nb a b w
  rw [gcmp_neg na nb a b] at HR
  obtain ⟨x, hx⟩ : ∃ x, gcmp na nb a b = x := ⟨_, rfl⟩
  obtain ⟨y, hy⟩ : ∃ y, gcmp nb nc b c = y := ⟨_, rfl⟩
  obtain ⟨z, hz⟩ : ∃ z, gcmp na nc a c = z := ⟨_, rfl⟩
  obtain ⟨eq, heq⟩ : ∃ eq, geqI na nb a b = eq := ⟨_, rfl⟩
  have Hxy : Hid (x = 0 ↔ geqI na nb a b = true) := Lib.hid (by rw [← hx]; exact hze)
  rw [hx] at HX HR hx3 hze
  rw [hy] at HY
  rw [hz] at HZ
  rw [hx, hy, hz] at Htr
  rw [heq] at hze
  simp only [heq] at heqI
  have Hze := Lib.hid hze
  have Heq := Lib.hid heqI
  have hI : (Tryd.prog.info? 62).map (·.size) = some (icells3 na nb nc a b c).toList.length := rfl
  clear awake_ok hm0 hze hx hy hz heq heqI
  have Hx3 := Lib.hid hx3
  clear hx3
  go_enter Tryd.func7, Tryd.ntmps7
  go_upto_region 1 with fail
  have hB0 : Below w.heap.size w (w.alloc (.cells (icells3 na nb nc a b c) 62)) := (Below.refl _ _).alloc (Nat.le_refl _) _
  have hz : w.heap.size < (w.alloc (.cells (icells3 na nb nc a b c) 62)).heap.size := by simp
  have XB : Box (w.alloc (.cells (icells3 na nb nc a b c) 62)) w.heap.size (icells3 na nb nc a b c) 62 := Box.new w _ _
  obtain ⟨w1, hw1⟩ : ∃ W, w.alloc (.cells (icells3 na nb nc a b c) 62) = W := ⟨_, rfl⟩
  have hw1' := hw1
  unfold icells3 at hw1'
  rw [hw1] at hB0 hz XB
  rw [hw1']
  have z : ∀ i, w1.cell? ⟨w.heap.size, i, none⟩ = (icells3 na nb nc a b c)[i]? := fun i => XB.cell i
  have z0 := z 0
  have z1 := z 1
  have z2 := z 2
  have z3 := z 3
  have z4 := z 4
  have z5 := z 5
  have z6 := z 6
  have z7 := z 7
  have z8 := z 8
  have z9 := z 9
  have z10 := z 10
  have z11 := z 11
  have z12 := z 12
  have z13 := z 13
  have z14 := z 14
  have z15 := z 15
  have z16 := z 16
  have z17 := z 17
  simp [icells3] at z0 z1 z2 z3 z4 z5 z6 z7 z8 z9 z10 z11 z12 z13 z14 z15 z16 z17
  have hz1 : w.heap.size < w1.heap.size + 1 := by omega
  have hz2 : w.heap.size < w1.heap.size + 1 + 1 := by omega
  have HB0 := Lib.hid hB0
  clear z hI hB0 hw1 hw1' XB
  go_cut [3, 4, 5] (fun p q r wx => LaidI3 na nb nc a b c w p q r wx)
  case first =>
    go_region
    all_goals
      go_wp2_with fail
      go_meet
      refine ⟨_, _, _, ⟨rfl, rfl, rfl⟩, ?_, ?_, ?_, below_dn 1 (((HB0.out.alloc HB0.out.size _).alloc (by have := HB0.out.size; simp; omega) _).alloc (by have := HB0.out.size; simp; omega) _)⟩
      all_goals first | exact Box.drew (Box.new' (by simp) _ _) | exact Box.drew ((Box.new' (by simp) _ _).alloc _) | exact Box.drew (((Box.new' (by simp) _ _).alloc _).alloc _)
  case rest =>
    clear z0 z1 z2 z3 z4 z5 z6 z7 z8 z9 z10 z11 z12 z13 z14 z15 z16 z17 hz hz1 hz2 HB0
    obtain ⟨A, B, C, ⟨rfl, rfl, rfl⟩, Ba, Bb, Bc, B1⟩ := hcut
    obtain ⟨W, rfl⟩ : ∃ v : World, v = wc := ⟨_, rfl⟩
    have Ga := Ba.g6
    have Gb := Bb.g6
    have Gc := Bc.g6
    clear Ba Bb Bc
    have Z : Hid (∀ V, Below W.heap.size W V → Below W.heap.size W V ∧ V.cell? ⟨A, 0, none⟩ = some (.int .i64 na) ∧ V.cell? ⟨A, 1, none⟩ = some (.int .i64 (a 0)) ∧ V.cell? ⟨A, 2, none⟩ = some (.int .i64 (a 1)) ∧ V.cell? ⟨A, 3, none⟩ = some (.int .i64 (a 2)) ∧ V.cell? ⟨A, 4, none⟩ = some (.int .i64 (a 3)) ∧ V.cell? ⟨A, 5, none⟩ = some (.int .i64 (a 4)) ∧ V.cell? ⟨B, 0, none⟩ = some (.int .i64 nb) ∧ V.cell? ⟨B, 1, none⟩ = some (.int .i64 (b 0)) ∧ V.cell? ⟨B, 2, none⟩ = some (.int .i64 (b 1)) ∧ V.cell? ⟨B, 3, none⟩ = some (.int .i64 (b 2)) ∧ V.cell? ⟨B, 4, none⟩ = some (.int .i64 (b 3)) ∧ V.cell? ⟨B, 5, none⟩ = some (.int .i64 (b 4)) ∧ V.cell? ⟨C, 0, none⟩ = some (.int .i64 nc) ∧ V.cell? ⟨C, 1, none⟩ = some (.int .i64 (c 0)) ∧ V.cell? ⟨C, 2, none⟩ = some (.int .i64 (c 1)) ∧ V.cell? ⟨C, 3, none⟩ = some (.int .i64 (c 2)) ∧ V.cell? ⟨C, 4, none⟩ = some (.int .i64 (c 3)) ∧ V.cell? ⟨C, 5, none⟩ = some (.int .i64 (c 4))) := Lib.hid (fun V hV => ⟨hV, (Ga.below hV).cell 0, (Ga.below hV).cell 1, (Ga.below hV).cell 2, (Ga.below hV).cell 3, (Ga.below hV).cell 4, (Ga.below hV).cell 5, (Gb.below hV).cell 0, (Gb.below hV).cell 1, (Gb.below hV).cell 2, (Gb.below hV).cell 3, (Gb.below hV).cell 4, (Gb.below hV).cell 5, (Gc.below hV).cell 0, (Gc.below hV).cell 1, (Gc.below hV).cell 2, (Gc.below hV).cell 3, (Gc.below hV).cell 4, (Gc.below hV).cell 5⟩)
    obtain ⟨_, ga0, ga1, ga2, ga3, ga4, ga5, gb0, gb1, gb2, gb3, gb4, gb5, gc0, gc1, gc2, gc3, gc4, gc5⟩ := Z.out W (Below.refl _ _)
    have hla := Ga.lt
    have hlb := Gb.lt
    have hlc := Gc.lt
    have HB1 := Lib.hid B1
    have HGa := Lib.hid Ga
    have HGb := Lib.hid Gb
    clear B1 Ga Gb Gc
    go_upto_region 2 with fail
    go_cut [6, 7, 8] (fun p q r wx => (p = .int .i64 x ∧ q = .int .i64 y ∧ r = .int .i64 z) ∧ Below W.heap.size W wx)
    case first =>
      go_region_held3 (fun V => Below W.heap.size W V ∧ V.cell? ⟨A, 0, none⟩ = some (.int .i64 na) ∧ V.cell? ⟨A, 1, none⟩ = some (.int .i64 (a 0)) ∧ V.cell? ⟨A, 2, none⟩ = some (.int .i64 (a 1)) ∧ V.cell? ⟨A, 3, none⟩ = some (.int .i64 (a 2)) ∧ V.cell? ⟨A, 4, none⟩ = some (.int .i64 (a 3)) ∧ V.cell? ⟨A, 5, none⟩ = some (.int .i64 (a 4)) ∧ V.cell? ⟨B, 0, none⟩ = some (.int .i64 nb) ∧ V.cell? ⟨B, 1, none⟩ = some (.int .i64 (b 0)) ∧ V.cell? ⟨B, 2, none⟩ = some (.int .i64 (b 1)) ∧ V.cell? ⟨B, 3, none⟩ = some (.int .i64 (b 2)) ∧ V.cell? ⟨B, 4, none⟩ = some (.int .i64 (b 3)) ∧ V.cell? ⟨B, 5, none⟩ = some (.int .i64 (b 4)) ∧ V.cell? ⟨C, 0, none⟩ = some (.int .i64 nc) ∧ V.cell? ⟨C, 1, none⟩ = some (.int .i64 (c 0)) ∧ V.cell? ⟨C, 2, none⟩ = some (.int .i64 (c 1)) ∧ V.cell? ⟨C, 3, none⟩ = some (.int .i64 (c 2)) ∧ V.cell? ⟨C, 4, none⟩ = some (.int .i64 (c 3)) ∧ V.cell? ⟨C, 5, none⟩ = some (.int .i64 (c 4))) (first | exact Z.out _ (below_dn 1 (Below.refl _ _)) | exact Z.out _ (Below.refl _ _) | exact Z.out _ (by assumption)) (first | (go_at_call 14; (with_reducible refine (HX.out _).mono ?_); rintro e y1 ⟨rfl, hz1⟩; have kk1 : Below W.heap.size W y1 := Below.trans (by first | assumption | exact And.left (by assumption)) (Joins.below_le hz1 (Below.size (by first | assumption | exact And.left (by assumption))))) | (go_at_call 14; (with_reducible refine (HY.out _).mono ?_); rintro e y2 ⟨rfl, hz2⟩; have kk2 : Below W.heap.size W y2 := Below.trans (by first | assumption | exact And.left (by assumption)) (Joins.below_le hz2 (Below.size (by first | assumption | exact And.left (by assumption))))) | (go_at_call 14; (with_reducible refine (HZ.out _).mono ?_); rintro e y3 ⟨rfl, hz3⟩; have kk3 : Below W.heap.size W y3 := Below.trans (by first | assumption | exact And.left (by assumption)) (Joins.below_le hz3 (Below.size (by first | assumption | exact And.left (by assumption))))))
      all_goals
        go_wp2_with fail
        go_meet
        exact ⟨⟨rfl, rfl, rfl⟩, by first | assumption | exact below_dn 1 (by assumption)⟩
    case rest =>
      obtain ⟨⟨rfl, rfl, rfl⟩, hb⟩ := hcut
      have HB2 := Lib.hid (HB1.out.trans (Joins.below_le hb HB1.out.size))
      have HGa2 := Lib.hid (HGa.out.below hb)
      have HGb2 := Lib.hid (HGb.out.below hb)
      clear hb HX HY HZ Z HGa HGb HB1 hla hlb hlc ga0 ga1 ga2 ga3 ga4 ga5 gb0 gb1 gb2 gb3 gb4 gb5 gc0 gc1 gc2 gc3 gc4 gc5
      obtain ⟨V, rfl⟩ : ∃ v : World, v = wc := ⟨_, rfl⟩
      go_upto_region 3 with fail
      have Ga := HGa2.out
      have Gb := HGb2.out
      go_cut [57] (fun r wx => r = .bool false ∧ Below V.heap.size V wx)
      case first =>
        rcases Hx3.out with rfl | rfl | rfl
        · have he : eq = false := by have := Hze.out; cases eq; rfl; simp at this
          subst he
          have heqI := Heq.out
          by_cases hy : y ≤ 0
          · have hz := Htr.out (by omega) hy
            have qa := Ga.lt
            have fa0 := Ga.cell 0
            have fa1 := Ga.cell 1
            have fa2 := Ga.cell 2
            have fa3 := Ga.cell 3
            have fa4 := Ga.cell 4
            have fa5 := Ga.cell 5
            simp at fa0 fa1 fa2 fa3 fa4 fa5
            have qb := Gb.lt
            have fb0 := Gb.cell 0
            have fb1 := Gb.cell 1
            have fb2 := Gb.cell 2
            have fb3 := Gb.cell 3
            have fb4 := Gb.cell 4
            have fb5 := Gb.cell 5
            simp at fb0 fb1 fb2 fb3 fb4 fb5
            have Ga2 := Ga
            have Gb2 := Gb
            clear Ga Gb
            go_wp2_with fail
            refine (HR.out _).mono ?_
            rintro e v1 ⟨rfl, hb⟩
            have q2 := Nat.lt_of_lt_of_le qa hb.size
            have q3 := Nat.lt_of_lt_of_le qb hb.size
            clear fa0 fa1 fa2 fa3 fa4 fa5 fb0 fb1 fb2 fb3 fb4 fb5 qa qb
            have fa0 := (Ga2.below hb).cell 0
            have fa1 := (Ga2.below hb).cell 1
            have fa2 := (Ga2.below hb).cell 2
            have fa3 := (Ga2.below hb).cell 3
            have fa4 := (Ga2.below hb).cell 4
            have fa5 := (Ga2.below hb).cell 5
            have fb0 := (Gb2.below hb).cell 0
            have fb1 := (Gb2.below hb).cell 1
            have fb2 := (Gb2.below hb).cell 2
            have fb3 := (Gb2.below hb).cell 3
            have fb4 := (Gb2.below hb).cell 4
            have fb5 := (Gb2.below hb).cell 5
            simp at fa0 fa1 fa2 fa3 fa4 fa5 fb0 fb1 fb2 fb3 fb4 fb5
            have HB := Lib.hid hb
            clear hb
            go_wp2_with fail
            go_meet
            exact ⟨by first | rfl | exact congrArg Value.bool (decide_eq_false (by omega)), HB.out⟩
          · have hy2 : 0 < y := by omega
            have qa := Ga.lt
            have fa0 := Ga.cell 0
            have fa1 := Ga.cell 1
            have fa2 := Ga.cell 2
            have fa3 := Ga.cell 3
            have fa4 := Ga.cell 4
            have fa5 := Ga.cell 5
            simp at fa0 fa1 fa2 fa3 fa4 fa5
            have qb := Gb.lt
            have fb0 := Gb.cell 0
            have fb1 := Gb.cell 1
            have fb2 := Gb.cell 2
            have fb3 := Gb.cell 3
            have fb4 := Gb.cell 4
            have fb5 := Gb.cell 5
            simp at fb0 fb1 fb2 fb3 fb4 fb5
            have Ga2 := Ga
            have Gb2 := Gb
            clear Ga Gb
            go_wp2_with fail
            refine (HR.out _).mono ?_
            rintro e v1 ⟨rfl, hb⟩
            have q2 := Nat.lt_of_lt_of_le qa hb.size
            have q3 := Nat.lt_of_lt_of_le qb hb.size
            clear fa0 fa1 fa2 fa3 fa4 fa5 fb0 fb1 fb2 fb3 fb4 fb5 qa qb
            have fa0 := (Ga2.below hb).cell 0
            have fa1 := (Ga2.below hb).cell 1
            have fa2 := (Ga2.below hb).cell 2
            have fa3 := (Ga2.below hb).cell 3
            have fa4 := (Ga2.below hb).cell 4
            have fa5 := (Ga2.below hb).cell 5
            have fb0 := (Gb2.below hb).cell 0
            have fb1 := (Gb2.below hb).cell 1
            have fb2 := (Gb2.below hb).cell 2
            have fb3 := (Gb2.below hb).cell 3
            have fb4 := (Gb2.below hb).cell 4
            have fb5 := (Gb2.below hb).cell 5
            simp at fa0 fa1 fa2 fa3 fa4 fa5 fb0 fb1 fb2 fb3 fb4 fb5
            have HB := Lib.hid hb
            clear hb
            go_wp2_with fail
            go_meet
            exact ⟨by first | rfl | exact congrArg Value.bool (decide_eq_false (by omega)), HB.out⟩
        · have he : eq = true := by have := Hze.out; simpa using this
          subst he
          have heqI := Heq.out
          by_cases hy : y ≤ 0
          · have hz := Htr.out (by omega) hy
            have qa := Ga.lt
            have fa0 := Ga.cell 0
            have fa1 := Ga.cell 1
            have fa2 := Ga.cell 2
            have fa3 := Ga.cell 3
            have fa4 := Ga.cell 4
            have fa5 := Ga.cell 5
            simp at fa0 fa1 fa2 fa3 fa4 fa5
            have qb := Gb.lt
            have fb0 := Gb.cell 0
            have fb1 := Gb.cell 1
            have fb2 := Gb.cell 2
            have fb3 := Gb.cell 3
            have fb4 := Gb.cell 4
            have fb5 := Gb.cell 5
            simp at fb0 fb1 fb2 fb3 fb4 fb5
            have Ga2 := Ga
            have Gb2 := Gb
            clear Ga Gb
            go_wp2_with fail
            refine (HR.out _).mono ?_
            rintro e v1 ⟨rfl, hb⟩
            have q2 := Nat.lt_of_lt_of_le qa hb.size
            have q3 := Nat.lt_of_lt_of_le qb hb.size
            clear fa0 fa1 fa2 fa3 fa4 fa5 fb0 fb1 fb2 fb3 fb4 fb5 qa qb
            have fa0 := (Ga2.below hb).cell 0
            have fa1 := (Ga2.below hb).cell 1
            have fa2 := (Ga2.below hb).cell 2
            have fa3 := (Ga2.below hb).cell 3
            have fa4 := (Ga2.below hb).cell 4
            have fa5 := (Ga2.below hb).cell 5
            have fb0 := (Gb2.below hb).cell 0
            have fb1 := (Gb2.below hb).cell 1
            have fb2 := (Gb2.below hb).cell 2
            have fb3 := (Gb2.below hb).cell 3
            have fb4 := (Gb2.below hb).cell 4
            have fb5 := (Gb2.below hb).cell 5
            simp at fa0 fa1 fa2 fa3 fa4 fa5 fb0 fb1 fb2 fb3 fb4 fb5
            have HB := Lib.hid hb
            clear hb
            go_wp2_with fail
            go_meet
            exact ⟨by first | rfl | exact congrArg Value.bool (decide_eq_false (by omega)), HB.out⟩
          · have hy2 : 0 < y := by omega
            have qa := Ga.lt
            have fa0 := Ga.cell 0
            have fa1 := Ga.cell 1
            have fa2 := Ga.cell 2
            have fa3 := Ga.cell 3
            have fa4 := Ga.cell 4
            have fa5 := Ga.cell 5
            simp at fa0 fa1 fa2 fa3 fa4 fa5
            have qb := Gb.lt
            have fb0 := Gb.cell 0
            have fb1 := Gb.cell 1
            have fb2 := Gb.cell 2
            have fb3 := Gb.cell 3
            have fb4 := Gb.cell 4
            have fb5 := Gb.cell 5
            simp at fb0 fb1 fb2 fb3 fb4 fb5
            have Ga2 := Ga
            have Gb2 := Gb
            clear Ga Gb
            go_wp2_with fail
            refine (HR.out _).mono ?_
            rintro e v1 ⟨rfl, hb⟩
            have q2 := Nat.lt_of_lt_of_le qa hb.size
            have q3 := Nat.lt_of_lt_of_le qb hb.size
            clear fa0 fa1 fa2 fa3 fa4 fa5 fb0 fb1 fb2 fb3 fb4 fb5 qa qb
            have fa0 := (Ga2.below hb).cell 0
            have fa1 := (Ga2.below hb).cell 1
            have fa2 := (Ga2.below hb).cell 2
            have fa3 := (Ga2.below hb).cell 3
            have fa4 := (Ga2.below hb).cell 4
            have fa5 := (Ga2.below hb).cell 5
            have fb0 := (Gb2.below hb).cell 0
            have fb1 := (Gb2.below hb).cell 1
            have fb2 := (Gb2.below hb).cell 2
            have fb3 := (Gb2.below hb).cell 3
            have fb4 := (Gb2.below hb).cell 4
            have fb5 := (Gb2.below hb).cell 5
            simp at fa0 fa1 fa2 fa3 fa4 fa5 fb0 fb1 fb2 fb3 fb4 fb5
            have HB := Lib.hid hb
            clear hb
            go_wp2_with fail
            go_meet
            exact ⟨by first | rfl | exact congrArg Value.bool (decide_eq_false (by omega)), HB.out⟩
        · have he : eq = false := by have := Hze.out; cases eq; rfl; simp at this
          subst he
          have heqI := Heq.out
          have qa := Ga.lt
          have fa0 := Ga.cell 0
          have fa1 := Ga.cell 1
          have fa2 := Ga.cell 2
          have fa3 := Ga.cell 3
          have fa4 := Ga.cell 4
          have fa5 := Ga.cell 5
          simp at fa0 fa1 fa2 fa3 fa4 fa5
          have qb := Gb.lt
          have fb0 := Gb.cell 0
          have fb1 := Gb.cell 1
          have fb2 := Gb.cell 2
          have fb3 := Gb.cell 3
          have fb4 := Gb.cell 4
          have fb5 := Gb.cell 5
          simp at fb0 fb1 fb2 fb3 fb4 fb5
          have Ga2 := Ga
          have Gb2 := Gb
          clear Ga Gb
          go_wp2_with fail
          refine (HR.out _).mono ?_
          rintro e v1 ⟨rfl, hb⟩
          have q2 := Nat.lt_of_lt_of_le qa hb.size
          have q3 := Nat.lt_of_lt_of_le qb hb.size
          clear fa0 fa1 fa2 fa3 fa4 fa5 fb0 fb1 fb2 fb3 fb4 fb5 qa qb
          have fa0 := (Ga2.below hb).cell 0
          have fa1 := (Ga2.below hb).cell 1
          have fa2 := (Ga2.below hb).cell 2
          have fa3 := (Ga2.below hb).cell 3
          have fa4 := (Ga2.below hb).cell 4
          have fa5 := (Ga2.below hb).cell 5
          have fb0 := (Gb2.below hb).cell 0
          have fb1 := (Gb2.below hb).cell 1
          have fb2 := (Gb2.below hb).cell 2
          have fb3 := (Gb2.below hb).cell 3
          have fb4 := (Gb2.below hb).cell 4
          have fb5 := (Gb2.below hb).cell 5
          simp at fa0 fa1 fa2 fa3 fa4 fa5 fb0 fb1 fb2 fb3 fb4 fb5
          have HB := Lib.hid hb
          clear hb
          go_wp2_with fail
          go_meet
          exact ⟨by first | rfl | exact congrArg Value.bool (decide_eq_false (by omega)), HB.out⟩
      case rest =>
        obtain ⟨rfl, hb⟩ := hcut
        have HB3 := Lib.hid (HB2.out.trans (Joins.below_le hb HB2.out.size))
        have HGa3 := Lib.hid (HGa2.out.below hb)
        have HGb3 := Lib.hid (HGb2.out.below hb)
        clear Ga Gb HB2 HGa2 HGb2 hb HR Heq Htr
        obtain ⟨U, rfl⟩ : ∃ v : World, v = wc := ⟨_, rfl⟩
        have B0 := HB3.out
        have Ga := HGa3.out
        have Gb := HGb3.out
        have HCa := Lib.hid (fun w => rcheck_code na a ra w)
        have HCb := Lib.hid (fun w => rcheck_code nb b rb w)
        clear HB3 HGa3 HGb3
        by_cases hca : gcode na a = 0
        · have hka := gcode_zero hca
          rw [hca] at HCa
          by_cases hcb : gcode nb b = 0
          · have hkb := gcode_zero hcb
            rw [hcb] at HCb
            obtain ⟨N, rfl⟩ := Int.eq_ofNat_of_zero_le (show 0 ≤ na by have := hka.1; omega)
            obtain ⟨M, rfl⟩ := Int.eq_ofNat_of_zero_le (show 0 ≤ nb by have := hkb.1; omega)
            obtain ⟨wa, ea⟩ := wf_of' hka
            obtain ⟨wb, eb⟩ := wf_of' hkb
            have ha5 : N ≤ 5 := wa.1.2
            have ha1 : 1 ≤ N := wa.1.1
            have HFa := Lib.hid (fun w => format_ok N _ wa w)
            have HFb := Lib.hid (fun w => format_ok M _ wb w)
            have HPa := Lib.hid (fun w h1 h2 => parse_gtx wa m0 w h1 h2)
            rw [← iv_of hka] at HFa HPa
            rw [← iv_of hkb] at HFb
            have Hst : Hid ((x = 0 → gtx N (fun p => (a p).toNat) = gtx M (fun p => (b p).toNat)) ∧ (x ≠ 0 → gtx N (fun p => (a p).toNat) ≠ gtx M (fun p => (b p).toNat))) := Lib.hid ⟨fun h => by
                obtain ⟨h1, h2⟩ := geqI_iff.1 (Hxy.out.1 h)
                have h3 : N = M := by omega
                subst h3
                exact gtx_congr (fun p hp => by show (a p).toNat = (b p).toNat; rw [h2 p (by omega)]), fun h e => by
                obtain ⟨h1, h2⟩ := gtx_inj wa wb e
                refine h (Hxy.out.2 (geqI_iff.2 ⟨by omega, fun k hk => ?_⟩))
                rw [ea k hk, eb k hk]
                exact congrArg Int.ofNat (h2 k hk)⟩
            have HAll := Lib.hid (fun (h : N ≤ 3) w => all_ok N ha1 (by omega) w)
            have Hat := Lib.hid (at_allG wa)
            have HCt : Hid (∀ v w, N ≤ 3 → Lies w N v (allG N N) → Calls Tryd.prog 35 #[v, iv (N : Int) a] w fun e w' => e = .returned (.bool true) ∧ Below w.heap.size w w') := Lib.hid (fun v w h3 hv => by
              rw [iv_of hka]
              obtain ⟨kk, hkk, hkat⟩ := Hat.out
              exact gcontains_ok N _ (allG N N) (by have := allG_le (show N ≤ 4 by omega) (Nat.le_refl N); omega) kk hkk hkat v w hv)
            have HSo : Hid (∀ v w, N ≤ 3 → Lies w N v (allG N N) → Calls Tryd.prog 36 #[v, .func (.func 14) #[] #[]] w fun e w' => e = .returned (.bool true) ∧ Below w.heap.size w w') := Lib.hid (fun v w h3 hv =>
              gsorted_ok N (allG N N) (by have := allG_le (show N ≤ 4 by omega) (Nat.le_refl N); omega) (fun i h => asc_at ha1 h3 h) v w hv (allG_pos ha5 (Nat.le_refl N)))
            have hneI := fun w => run_neq_j (N : Int) (N : Int) a a w
            have hre : geqI (N : Int) (N : Int) a a = true := geqI_iff.2 ⟨rfl, fun _ _ => rfl⟩
            rw [hre] at hneI
            have HneI := Lib.hid hneI
            obtain ⟨S1, hS1⟩ : ∃ S1, gtx N (fun p => (a p).toNat) = S1 := ⟨_, rfl⟩
            obtain ⟨S2, hS2⟩ : ∃ S2, gtx M (fun p => (b p).toNat) = S2 := ⟨_, rfl⟩
            rw [hS1] at HFa HPa Hst
            rw [hS2] at HFb Hst
            clear Hat hneI hre hS1 hS2 ea eb wa wb hka hkb hca hcb Hxy Hze ra rb rc
            have qa := Ga.lt
            have fa0 := Ga.cell 0
            have fa1 := Ga.cell 1
            have fa2 := Ga.cell 2
            have fa3 := Ga.cell 3
            have fa4 := Ga.cell 4
            have fa5 := Ga.cell 5
            simp at fa0 fa1 fa2 fa3 fa4 fa5
            go_wp2_with fail
            refine (HCa.out _).mono ?_
            rintro e t1 ⟨rfl, hb⟩
            clear qa fa0 fa1 fa2 fa3 fa4 fa5
            replace Ga := Ga.below hb
            replace Gb := Gb.below hb
            have B1 := B0.trans (Joins.below_le hb B0.size)
            clear B0 hb
            have qb := Gb.lt
            have fb0 := Gb.cell 0
            have fb1 := Gb.cell 1
            have fb2 := Gb.cell 2
            have fb3 := Gb.cell 3
            have fb4 := Gb.cell 4
            have fb5 := Gb.cell 5
            simp at fb0 fb1 fb2 fb3 fb4 fb5
            go_wp2_with fail
            refine (HCb.out _).mono ?_
            rintro e t2 ⟨rfl, hb⟩
            clear qb fb0 fb1 fb2 fb3 fb4 fb5
            replace Ga := Ga.below hb
            replace Gb := Gb.below hb
            have B2 := B1.trans (Joins.below_le hb B1.size)
            clear B1 hb
            have qa := Ga.lt
            have fa0 := Ga.cell 0
            have fa1 := Ga.cell 1
            have fa2 := Ga.cell 2
            have fa3 := Ga.cell 3
            have fa4 := Ga.cell 4
            have fa5 := Ga.cell 5
            simp at fa0 fa1 fa2 fa3 fa4 fa5
            go_wp2_with fail
            refine (HFa.out _).mono ?_
            rintro e t3 ⟨rfl, hb⟩
            clear qa fa0 fa1 fa2 fa3 fa4 fa5
            replace Ga := Ga.below hb
            replace Gb := Gb.below hb
            have B3 := B2.trans (Joins.below_le hb B2.size)
            clear B2 hb
            have qb := Gb.lt
            have fb0 := Gb.cell 0
            have fb1 := Gb.cell 1
            have fb2 := Gb.cell 2
            have fb3 := Gb.cell 3
            have fb4 := Gb.cell 4
            have fb5 := Gb.cell 5
            simp at fb0 fb1 fb2 fb3 fb4 fb5
            go_wp2_with fail
            refine (HFb.out _).mono ?_
            rintro e t4 ⟨rfl, hb⟩
            clear qb fb0 fb1 fb2 fb3 fb4 fb5
            replace Ga := Ga.below hb
            replace Gb := Gb.below hb
            have B4 := B3.trans (Joins.below_le hb B3.size)
            clear B3 hb
            go_wp2_with fail
            refine (HPa.out _ (Nat.lt_of_lt_of_le hw B4.size) ((B4.cell (p := ⟨0, 0, none⟩) hw).trans Hm.out)).mono ?_
            rintro e t5 ⟨rfl, hb⟩
            replace Ga := Ga.below hb
            replace Gb := Gb.below hb
            have B5 := B4.trans (Joins.below_le hb B4.size)
            clear B4 hb
            go_upto_region 10 with fail
            obtain ⟨Y, hY⟩ : ∃ Y, t5.alloc (.cells #[.int .i64 (N : Int), .int .i64 (a 0), .int .i64 (a 1), .int .i64 (a 2), .int .i64 (a 3), .int .i64 (a 4)] 24) = Y := ⟨_, rfl⟩
            have Gk : G6 Y t5.heap.size #[.int .i64 (N : Int), .int .i64 (a 0), .int .i64 (a 1), .int .i64 (a 2), .int .i64 (a 3), .int .i64 (a 4)] := hY ▸ G6.new t5 _ 24
            replace Ga := hY ▸ Ga.alloc (.cells #[.int .i64 (N : Int), .int .i64 (a 0), .int .i64 (a 1), .int .i64 (a 2), .int .i64 (a 3), .int .i64 (a 4)] 24)
            have BY := hY ▸ B5.alloc B5.size (.cells #[.int .i64 (N : Int), .int .i64 (a 0), .int .i64 (a 1), .int .i64 (a 2), .int .i64 (a 3), .int .i64 (a 4)] 24)
            rw [hY]
            clear hY Gb B5
            obtain ⟨K, hK⟩ : ∃ K, t5.heap.size = K := ⟨_, rfl⟩
            rw [hK] at Gk ⊢
            clear hK
            go_cut [100] (fun r wx => r = .bool false ∧ wx = Y)
            case first =>
              have hneI := HneI.out
              have qa := Ga.lt
              have fa0 := Ga.cell 0
              have fa1 := Ga.cell 1
              have fa2 := Ga.cell 2
              have fa3 := Ga.cell 3
              have fa4 := Ga.cell 4
              have fa5 := Ga.cell 5
              simp at fa0 fa1 fa2 fa3 fa4 fa5
              have qk := Gk.lt
              have fk0 := Gk.cell 0
              have fk1 := Gk.cell 1
              have fk2 := Gk.cell 2
              have fk3 := Gk.cell 3
              have fk4 := Gk.cell 4
              have fk5 := Gk.cell 5
              simp at fk0 fk1 fk2 fk3 fk4 fk5
              by_cases hx0 : x = 0
              · have e := Hst.out.1 hx0
                subst hx0
                subst e
                go_wp2_with fail
                go_meet
                exact ⟨rfl, rfl⟩
              · have hst := Hst.out.2 hx0
                have hxb : (x == 0) = false := by simpa using hx0
                have hdd : S1.data ≠ S2.data := fun e => hst (by cases S1; cases S2; exact congrArg ByteArray.mk e)
                have hne4 : (S1.toList == S2.toList) = false := by
                  rw [beq_eq_false_iff_ne]
                  intro e
                  exact hdd (Array.toList_inj.1 (((ByteArray.toList_eq _).symm.trans e).trans (ByteArray.toList_eq _)))
                clear hdd hst hx0
                go_wp2_with fail
                go_meet
                exact ⟨rfl, rfl⟩
            case rest =>
              obtain ⟨rfl, rfl⟩ := hcut
              clear Gk HneI Hst HFa HFb HPa
              have fa0 := Ga.cell 0
              simp at fa0
              have qa := Ga.lt
              by_cases h3 : N ≤ 3
              · have h3i : (N : Int) ≤ 3 := by omega
                go_wp2_with fail
                refine (HAll.out h3 _).mono ?_
                rintro e t6 ⟨v, rfl, hb, ho⟩
                clear fa0 qa
                replace Ga := Ga.below hb
                have B6 := BY.trans (Joins.below_le hb BY.size)
                have hl := Lies.of ho
                have hlp := allG_pos ha5 (Nat.le_refl N)
                have hll := allG_le (show N ≤ 4 by omega) (Nat.le_refl N)
                obtain ⟨Mm, hM, hMl, hM6⟩ : ∃ Mm : Nat, (N : Int) * ((N : Int) - 1) = (Mm : Int) ∧ (allG N N).length = 2 ^ Mm ∧ Mm ≤ 6 := by
                  obtain rfl | rfl | rfl : N = 1 ∨ N = 2 ∨ N = 3 := by omega
                  · exact ⟨0, by rfl, by rw [allG_len (by omega) _ (by omega)], by omega⟩
                  · exact ⟨2, by rfl, by rw [allG_len (by omega) _ (by omega)], by omega⟩
                  · exact ⟨6, by rfl, by rw [allG_len (by omega) _ (by omega)], by omega⟩
                have h2M : (2 : Nat) ^ Mm ≤ 64 := Nat.pow_le_pow_right (n := 2) (by omega) hM6
                obtain ⟨g, cap, rfl, _⟩ : ∃ g cap, v = .slice (some ⟨g, 0, none⟩) (allG N N).length cap ∧ True := by
                  rcases hl.form with ⟨_, h0⟩ | ⟨g, cap, h0, _⟩
                  · omega
                  · exact ⟨g, cap, h0, trivial⟩
                have HL := Lib.hid hl
                obtain ⟨l, hle⟩ : ∃ l, allG N N = l := ⟨_, rfl⟩
                rw [hle] at HCt HSo HL hMl hlp hll ⊢
                have hlen : ((l.length : Int) == wrap64 (2 ^ Mm)) = true := by
                  have e : ((2 : Int) ^ Mm) = ((2 ^ Mm : Nat) : Int) := by simp
                  rw [e, hMl]
                  generalize (2 : Nat) ^ Mm = z at h2M
                  rw [IntWalk.wrap64_in _ (by omega)]
                  simp
                clear hb ho hl BY hle hMl h2M hlp HAll
                have qa := Ga.lt
                have fa0 := Ga.cell 0
                have fa1 := Ga.cell 1
                have fa2 := Ga.cell 2
                have fa3 := Ga.cell 3
                have fa4 := Ga.cell 4
                have fa5 := Ga.cell 5
                simp at fa0 fa1 fa2 fa3 fa4 fa5
                go_wp2_with fail
                refine (HCt.out _ _ h3 HL.out).mono ?_
                rintro e t7 ⟨rfl, hb⟩
                clear qa fa0 fa1 fa2 fa3 fa4 fa5
                replace Ga := Ga.below hb
                have HL2 := Lib.hid (HL.out.below hb)
                have B7 := B6.trans (Joins.below_le hb B6.size)
                clear B6 hb HL
                go_wp2_with fail
                refine (HSo.out _ _ h3 HL2.out).mono ?_
                rintro e t8 ⟨rfl, hb⟩
                replace Ga := Ga.below hb
                have B8 := B7.trans (Joins.below_le hb B7.size)
                clear B7 hb HL2
                have fa0 := Ga.cell 0
                simp at fa0
                have qa := Ga.lt
                clear Ga
                go_wp2_with fail
                refine (HW.out _).mono ?_
                rintro e t9 ⟨rfl, hb⟩
                have B9 := B8.trans (Joins.below_le hb B8.size)
                clear B8 hb
                go_wp2_with fail
                go_ret
                exact ⟨rfl, B9⟩
              · have h3i : (3 : Int) < (N : Int) := by omega
                go_wp2_with fail
                refine (HW.out _).mono ?_
                rintro e t10 ⟨rfl, hb⟩
                have B10 := BY.trans (Joins.below_le hb BY.size)
                clear BY hb
                go_wp2_with fail
                go_ret
                exact ⟨rfl, B10⟩
          · have hcc := gcode_cases nb b
            obtain ⟨c0, ec⟩ : ∃ c0, gcode nb b = c0 := ⟨_, rfl⟩
            rw [ec] at HCb hcc hcb
            clear ec ra rb rc hka hca
            have qa := Ga.lt
            have fa0 := Ga.cell 0
            have fa1 := Ga.cell 1
            have fa2 := Ga.cell 2
            have fa3 := Ga.cell 3
            have fa4 := Ga.cell 4
            have fa5 := Ga.cell 5
            simp at fa0 fa1 fa2 fa3 fa4 fa5
            go_wp2_with fail
            refine (HCa.out _).mono ?_
            rintro e t11 ⟨rfl, hb⟩
            clear qa fa0 fa1 fa2 fa3 fa4 fa5
            replace Ga := Ga.below hb
            replace Gb := Gb.below hb
            have B11 := B0.trans (Joins.below_le hb B0.size)
            clear B0 hb
            rcases hcc with rfl | rfl | rfl
            · exact absurd rfl hcb
            all_goals
              have qb := Gb.lt
              have fb0 := Gb.cell 0
              have fb1 := Gb.cell 1
              have fb2 := Gb.cell 2
              have fb3 := Gb.cell 3
              have fb4 := Gb.cell 4
              have fb5 := Gb.cell 5
              simp at fb0 fb1 fb2 fb3 fb4 fb5
              go_wp2_with fail
              refine (HCb.out _).mono ?_
              rintro e t12 ⟨rfl, hb⟩
              clear qb fb0 fb1 fb2 fb3 fb4 fb5
              have B12 := B11.trans (Joins.below_le hb B11.size)
              clear B11 hb
              go_wp2_with fail
              refine (HW.out _).mono ?_
              rintro e t13 ⟨rfl, hb⟩
              have B13 := B12.trans (Joins.below_le hb B12.size)
              clear B12 hb
              go_wp2_with fail
              go_ret
              exact ⟨rfl, B13⟩
        · have hcc := gcode_cases na a
          obtain ⟨c0, ec⟩ : ∃ c0, gcode na a = c0 := ⟨_, rfl⟩
          rw [ec] at HCa hcc hca
          clear ec ra rb rc
          rcases hcc with rfl | rfl | rfl
          · exact absurd rfl hca
          all_goals
            have qa := Ga.lt
            have fa0 := Ga.cell 0
            have fa1 := Ga.cell 1
            have fa2 := Ga.cell 2
            have fa3 := Ga.cell 3
            have fa4 := Ga.cell 4
            have fa5 := Ga.cell 5
            simp at fa0 fa1 fa2 fa3 fa4 fa5
            go_wp2_with fail
            refine (HCa.out _).mono ?_
            rintro e t14 ⟨rfl, hb⟩
            clear qa fa0 fa1 fa2 fa3 fa4 fa5
            have B14 := B0.trans (Joins.below_le hb B0.size)
            clear B0 hb
            go_wp2_with fail
            refine (HW.out _).mono ?_
            rintro e t15 ⟨rfl, hb⟩
            have B15 := B14.trans (Joins.below_le hb B14.size)
            clear B14 hb
            go_wp2_with fail
            go_ret
            exact ⟨rfl, B15⟩
end Go.Proofs.YtacnhklhimogkaaDoor
