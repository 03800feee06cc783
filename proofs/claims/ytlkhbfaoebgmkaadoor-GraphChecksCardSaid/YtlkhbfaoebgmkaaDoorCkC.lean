/- The walk of roundtablelaw03.GraphChecks for whatever graphs and number: the package and the specification answer alike. -/
import Derived.Test.YtlkhbfaoebgmkaaDoorCkB
import Derived.Deep.DeepCutAuto
import Derived.Deep.RegionHeld3
import Derived.Test.YtlkhbfaoebgmkaaDoorGcB
import Derived.Test.YtlkhbfaoebgmkaaDoorGrN
import Derived.Test.YtlkhbfaoebgmkaaDoorPmA
import Derived.Test.YtlkhbfaoebgmkaaDoorPmM
import Derived.Test.YtlkhbfaoebgmkaaDoorPmD
import Derived.Test.YtlkhbfaoebgmkaaDoorGrR
import Derived.Test.YtlkhbfaoebgmkaaDoorTb
import Derived.LoopTactic
import Derived.Deep.RegionWith
import Derived.WalkKit
import Derived.WalkSpells
import Derived.WalkLawsBesides
import Derived.Handy
import Derived.Deep.QuietTactic
import Derived.BigQuiet
import Derived.Outline
import Derived.Laws.BitsAllLaws
import Derived.IntWalk
import Derived.Lib.SmallJoins
import Derived.Lib.Hide
namespace Go.Proofs.YtlkhbfaoebgmkaaDoor
set_option linter.unusedVariables false
set_option linter.unusedSimpArgs false
open Go.RowKit

set_option maxRecDepth 100000 in
set_option maxHeartbeats 16000000 in
theorem checks_any (na nb : Int) (a b : Nat → Int) (ra : Rng a) (rb : Rng b) (m : Int) (w : World)
    (awake_ok : ∀ w, Calls Tryd.prog 16 #[] w fun e w' => e = .returned (.bool true) ∧ Below w.heap.size w w') :
    Calls Tryd.prog 3 #[iv na a, iv nb b, .int .i64 m] w fun e w' => e = .returned (.bool true) ∧ Below w.heap.size w w' := by
  have heql := run_eql_g
  have hneq := run_neq_g
  obtain ⟨n1, k1, c1, P1, R1⟩ := alike_complete m
  obtain ⟨n2, k2, c2, P2, R2⟩ := alike_silent m
  have t1 : geq n1 n1 (k1 0) (k1 1) (k1 2) (k1 3) (k1 4) (k1 0) (k1 1) (k1 2) (k1 3) (k1 4) = true := geq_self _ _ _ _ _ _ _ _ _ _ _ rfl rfl rfl rfl rfl
  have t2 : geq n2 n2 (k2 0) (k2 1) (k2 2) (k2 3) (k2 4) (k2 0) (k2 1) (k2 2) (k2 3) (k2 4) = true := geq_self _ _ _ _ _ _ _ _ _ _ _ rfl rfl rfl rfl rfl
  have HP1 := Lib.hid P1
  have HR1 := Lib.hid R1
  have HP2 := Lib.hid P2
  have HR2 := Lib.hid R2
  have HW := Lib.hid awake_ok
  have HC := Lib.hid (fun w => gcheck_code na a ra w)
  have HD := Lib.hid (fun w => rcheck_code na a ra w)
  have HE := Lib.hid (fun w => compare_any na nb a b w)
  have HF := Lib.hid (fun w => rcompare_any na nb a b w)
  obtain ⟨cc, ec⟩ : ∃ c, gcode na a = c := ⟨_, rfl⟩
  obtain ⟨gg, eg⟩ : ∃ c, gcmp na nb a b = c := ⟨_, rfl⟩
  rw [ec] at HC HD
  rw [eg] at HE HF
  clear P1 R1 P2 R2 awake_ok ra rb ec eg
  go_enter Tryd.func3, Tryd.ntmps3
  go_wp2_with fail
  have Ga : G6 ((w.alloc (.cells #[.int .i64 na, .int .i64 (a 0), .int .i64 (a 1), .int .i64 (a 2), .int .i64 (a 3), .int .i64 (a 4)] 24)).alloc (.cells #[.int .i64 nb, .int .i64 (b 0), .int .i64 (b 1), .int .i64 (b 2), .int .i64 (b 3), .int .i64 (b 4)] 24)) w.heap.size #[.int .i64 na, .int .i64 (a 0), .int .i64 (a 1), .int .i64 (a 2), .int .i64 (a 3), .int .i64 (a 4)] := (G6.new w _ 24).alloc _
  have Gb : G6 ((w.alloc (.cells #[.int .i64 na, .int .i64 (a 0), .int .i64 (a 1), .int .i64 (a 2), .int .i64 (a 3), .int .i64 (a 4)] 24)).alloc (.cells #[.int .i64 nb, .int .i64 (b 0), .int .i64 (b 1), .int .i64 (b 2), .int .i64 (b 3), .int .i64 (b 4)] 24)) (w.heap.size + 1) #[.int .i64 nb, .int .i64 (b 0), .int .i64 (b 1), .int .i64 (b 2), .int .i64 (b 3), .int .i64 (b 4)] := G6.at_ (by simp) _ 24
  have B0 : Below w.heap.size w ((w.alloc (.cells #[.int .i64 na, .int .i64 (a 0), .int .i64 (a 1), .int .i64 (a 2), .int .i64 (a 3), .int .i64 (a 4)] 24)).alloc (.cells #[.int .i64 nb, .int .i64 (b 0), .int .i64 (b 1), .int .i64 (b 2), .int .i64 (b 3), .int .i64 (b 4)] 24)) := ((Below.refl _ _).alloc (Nat.le_refl _) _).alloc (by simp) _
  refine (HP1.out _).mono ?_
  rintro e w1 ⟨rfl, hb1⟩
  replace Ga := Ga.below hb1
  replace Gb := Gb.below hb1
  have B1 := B0.trans (Joins.below_le hb1 B0.size)
  clear B0 hb1 HP1
  go_wp2_with fail
  refine (HR1.out _).mono ?_
  rintro e w2 ⟨rfl, hb2⟩
  replace Ga := (Ga.alloc _).below hb2
  replace Gb := (Gb.alloc _).below hb2
  have Gx : G6 w2 w1.heap.size #[.int .i64 (n1 : Int), .int .i64 (k1 0 : Int), .int .i64 (k1 1 : Int), .int .i64 (k1 2 : Int), .int .i64 (k1 3 : Int), .int .i64 (k1 4 : Int)] := (G6.new w1 _ 24).below hb2
  have B2 := B1.trans (Joins.below_le (fresh_below hb2) B1.size)
  clear B1 hb2 HR1
  go_wp2_with fail
  refine (HP2.out _).mono ?_
  rintro e w3 ⟨rfl, hb3⟩
  replace Ga := (Ga.alloc _).below hb3
  replace Gb := (Gb.alloc _).below hb3
  replace Gx := (Gx.alloc _).below hb3
  have Gy : G6 w3 w2.heap.size #[.int .i64 (n1 : Int), .int .i64 (k1 0 : Int), .int .i64 (k1 1 : Int), .int .i64 (k1 2 : Int), .int .i64 (k1 3 : Int), .int .i64 (k1 4 : Int)] := (G6.new w2 _ 24).below hb3
  have B3 := B2.trans (Joins.below_le (fresh_below hb3) B2.size)
  clear B2 hb3 HP2
  go_wp2_with fail
  refine (HR2.out _).mono ?_
  rintro e w4 ⟨rfl, hb4⟩
  replace Ga := (Ga.alloc _).below hb4
  replace Gb := (Gb.alloc _).below hb4
  replace Gx := (Gx.alloc _).below hb4
  replace Gy := (Gy.alloc _).below hb4
  have Gu : G6 w4 w3.heap.size #[.int .i64 (n2 : Int), .int .i64 (k2 0 : Int), .int .i64 (k2 1 : Int), .int .i64 (k2 2 : Int), .int .i64 (k2 3 : Int), .int .i64 (k2 4 : Int)] := (G6.new w3 _ 24).below hb4
  have B4 := B3.trans (Joins.below_le (fresh_below hb4) B3.size)
  clear B3 hb4 HR2
  go_upto_region 5 with fail
  obtain ⟨W, hW⟩ : ∃ W, w4.alloc (.cells #[.int .i64 (n2 : Int), .int .i64 (k2 0 : Int), .int .i64 (k2 1 : Int), .int .i64 (k2 2 : Int), .int .i64 (k2 3 : Int), .int .i64 (k2 4 : Int)] 24) = W := ⟨_, rfl⟩
  rw [hW]
  have B5 : Below w.heap.size w W := hW ▸ B4.alloc B4.size _
  have Xa : G6 W _ #[.int .i64 na, .int .i64 (a 0), .int .i64 (a 1), .int .i64 (a 2), .int .i64 (a 3), .int .i64 (a 4)] := hW ▸ Ga.alloc _
  have Xb : G6 W _ #[.int .i64 nb, .int .i64 (b 0), .int .i64 (b 1), .int .i64 (b 2), .int .i64 (b 3), .int .i64 (b 4)] := hW ▸ Gb.alloc _
  have Xx : G6 W _ #[.int .i64 (n1 : Int), .int .i64 (k1 0 : Int), .int .i64 (k1 1 : Int), .int .i64 (k1 2 : Int), .int .i64 (k1 3 : Int), .int .i64 (k1 4 : Int)] := hW ▸ Gx.alloc _
  have Xy : G6 W _ #[.int .i64 (n1 : Int), .int .i64 (k1 0 : Int), .int .i64 (k1 1 : Int), .int .i64 (k1 2 : Int), .int .i64 (k1 3 : Int), .int .i64 (k1 4 : Int)] := hW ▸ Gy.alloc _
  have Xu : G6 W _ #[.int .i64 (n2 : Int), .int .i64 (k2 0 : Int), .int .i64 (k2 1 : Int), .int .i64 (k2 2 : Int), .int .i64 (k2 3 : Int), .int .i64 (k2 4 : Int)] := hW ▸ Gu.alloc _
  have Xv : G6 W w4.heap.size #[.int .i64 (n2 : Int), .int .i64 (k2 0 : Int), .int .i64 (k2 1 : Int), .int .i64 (k2 2 : Int), .int .i64 (k2 3 : Int), .int .i64 (k2 4 : Int)] := hW ▸ G6.new w4 _ 24
  clear hW B4 Ga Gb Gx Gy Gu
  obtain ⟨Px, ex⟩ : ∃ P, w1.heap.size = P := ⟨_, rfl⟩
  rw [ex] at Xx ⊢
  obtain ⟨Py, ey⟩ : ∃ P, w2.heap.size = P := ⟨_, rfl⟩
  rw [ey] at Xy ⊢
  obtain ⟨Pu, eu⟩ : ∃ P, w3.heap.size = P := ⟨_, rfl⟩
  rw [eu] at Xu ⊢
  obtain ⟨Pv, ev⟩ : ∃ P, w4.heap.size = P := ⟨_, rfl⟩
  rw [ev] at Xv ⊢
  clear ex ey eu ev
  have Z : Hid (∀ V, Below W.heap.size W V → V.cell? ⟨w.heap.size, 0, none⟩ = some (.int .i64 na) ∧ V.cell? ⟨w.heap.size, 1, none⟩ = some (.int .i64 (a 0)) ∧ V.cell? ⟨w.heap.size, 2, none⟩ = some (.int .i64 (a 1)) ∧ V.cell? ⟨w.heap.size, 3, none⟩ = some (.int .i64 (a 2)) ∧ V.cell? ⟨w.heap.size, 4, none⟩ = some (.int .i64 (a 3)) ∧ V.cell? ⟨w.heap.size, 5, none⟩ = some (.int .i64 (a 4)) ∧ V.cell? ⟨w.heap.size + 1, 0, none⟩ = some (.int .i64 nb) ∧ V.cell? ⟨w.heap.size + 1, 1, none⟩ = some (.int .i64 (b 0)) ∧ V.cell? ⟨w.heap.size + 1, 2, none⟩ = some (.int .i64 (b 1)) ∧ V.cell? ⟨w.heap.size + 1, 3, none⟩ = some (.int .i64 (b 2)) ∧ V.cell? ⟨w.heap.size + 1, 4, none⟩ = some (.int .i64 (b 3)) ∧ V.cell? ⟨w.heap.size + 1, 5, none⟩ = some (.int .i64 (b 4)) ∧ V.cell? ⟨Px, 0, none⟩ = some (.int .i64 (n1 : Int)) ∧ V.cell? ⟨Px, 1, none⟩ = some (.int .i64 (k1 0 : Int)) ∧ V.cell? ⟨Px, 2, none⟩ = some (.int .i64 (k1 1 : Int)) ∧ V.cell? ⟨Px, 3, none⟩ = some (.int .i64 (k1 2 : Int)) ∧ V.cell? ⟨Px, 4, none⟩ = some (.int .i64 (k1 3 : Int)) ∧ V.cell? ⟨Px, 5, none⟩ = some (.int .i64 (k1 4 : Int)) ∧ V.cell? ⟨Py, 0, none⟩ = some (.int .i64 (n1 : Int)) ∧ V.cell? ⟨Py, 1, none⟩ = some (.int .i64 (k1 0 : Int)) ∧ V.cell? ⟨Py, 2, none⟩ = some (.int .i64 (k1 1 : Int)) ∧ V.cell? ⟨Py, 3, none⟩ = some (.int .i64 (k1 2 : Int)) ∧ V.cell? ⟨Py, 4, none⟩ = some (.int .i64 (k1 3 : Int)) ∧ V.cell? ⟨Py, 5, none⟩ = some (.int .i64 (k1 4 : Int)) ∧ V.cell? ⟨Pu, 0, none⟩ = some (.int .i64 (n2 : Int)) ∧ V.cell? ⟨Pu, 1, none⟩ = some (.int .i64 (k2 0 : Int)) ∧ V.cell? ⟨Pu, 2, none⟩ = some (.int .i64 (k2 1 : Int)) ∧ V.cell? ⟨Pu, 3, none⟩ = some (.int .i64 (k2 2 : Int)) ∧ V.cell? ⟨Pu, 4, none⟩ = some (.int .i64 (k2 3 : Int)) ∧ V.cell? ⟨Pu, 5, none⟩ = some (.int .i64 (k2 4 : Int)) ∧ V.cell? ⟨Pv, 0, none⟩ = some (.int .i64 (n2 : Int)) ∧ V.cell? ⟨Pv, 1, none⟩ = some (.int .i64 (k2 0 : Int)) ∧ V.cell? ⟨Pv, 2, none⟩ = some (.int .i64 (k2 1 : Int)) ∧ V.cell? ⟨Pv, 3, none⟩ = some (.int .i64 (k2 2 : Int)) ∧ V.cell? ⟨Pv, 4, none⟩ = some (.int .i64 (k2 3 : Int)) ∧ V.cell? ⟨Pv, 5, none⟩ = some (.int .i64 (k2 4 : Int))) := Lib.hid (fun V hV => ⟨(Xa.below hV).cell 0, (Xa.below hV).cell 1, (Xa.below hV).cell 2, (Xa.below hV).cell 3, (Xa.below hV).cell 4, (Xa.below hV).cell 5, (Xb.below hV).cell 0, (Xb.below hV).cell 1, (Xb.below hV).cell 2, (Xb.below hV).cell 3, (Xb.below hV).cell 4, (Xb.below hV).cell 5, (Xx.below hV).cell 0, (Xx.below hV).cell 1, (Xx.below hV).cell 2, (Xx.below hV).cell 3, (Xx.below hV).cell 4, (Xx.below hV).cell 5, (Xy.below hV).cell 0, (Xy.below hV).cell 1, (Xy.below hV).cell 2, (Xy.below hV).cell 3, (Xy.below hV).cell 4, (Xy.below hV).cell 5, (Xu.below hV).cell 0, (Xu.below hV).cell 1, (Xu.below hV).cell 2, (Xu.below hV).cell 3, (Xu.below hV).cell 4, (Xu.below hV).cell 5, (Xv.below hV).cell 0, (Xv.below hV).cell 1, (Xv.below hV).cell 2, (Xv.below hV).cell 3, (Xv.below hV).cell 4, (Xv.below hV).cell 5⟩)
  obtain ⟨fa0, fa1, fa2, fa3, fa4, fa5, fb0, fb1, fb2, fb3, fb4, fb5, fx0, fx1, fx2, fx3, fx4, fx5, fy0, fy1, fy2, fy3, fy4, fy5, fu0, fu1, fu2, fu3, fu4, fu5, fv0, fv1, fv2, fv3, fv4, fv5⟩ := Z.out W (Below.refl _ _)
  have HB5 := Lib.hid B5
  clear B5 Xa Xb Xx Xy Xu Xv
  have Zs : ∀ V, Below W.heap.size W V → Below W.heap.size W V ∧ V.cell? ⟨w.heap.size, 0, none⟩ = some (.int .i64 na) ∧ V.cell? ⟨w.heap.size, 1, none⟩ = some (.int .i64 (a 0)) ∧ V.cell? ⟨w.heap.size, 2, none⟩ = some (.int .i64 (a 1)) ∧ V.cell? ⟨w.heap.size, 3, none⟩ = some (.int .i64 (a 2)) ∧ V.cell? ⟨w.heap.size, 4, none⟩ = some (.int .i64 (a 3)) ∧ V.cell? ⟨w.heap.size, 5, none⟩ = some (.int .i64 (a 4)) ∧ V.cell? ⟨w.heap.size + 1, 0, none⟩ = some (.int .i64 nb) ∧ V.cell? ⟨w.heap.size + 1, 1, none⟩ = some (.int .i64 (b 0)) ∧ V.cell? ⟨w.heap.size + 1, 2, none⟩ = some (.int .i64 (b 1)) ∧ V.cell? ⟨w.heap.size + 1, 3, none⟩ = some (.int .i64 (b 2)) ∧ V.cell? ⟨w.heap.size + 1, 4, none⟩ = some (.int .i64 (b 3)) ∧ V.cell? ⟨w.heap.size + 1, 5, none⟩ = some (.int .i64 (b 4)) ∧ V.cell? ⟨Px, 0, none⟩ = some (.int .i64 (n1 : Int)) ∧ V.cell? ⟨Px, 1, none⟩ = some (.int .i64 (k1 0 : Int)) ∧ V.cell? ⟨Px, 2, none⟩ = some (.int .i64 (k1 1 : Int)) ∧ V.cell? ⟨Px, 3, none⟩ = some (.int .i64 (k1 2 : Int)) ∧ V.cell? ⟨Px, 4, none⟩ = some (.int .i64 (k1 3 : Int)) ∧ V.cell? ⟨Px, 5, none⟩ = some (.int .i64 (k1 4 : Int)) ∧ V.cell? ⟨Py, 0, none⟩ = some (.int .i64 (n1 : Int)) ∧ V.cell? ⟨Py, 1, none⟩ = some (.int .i64 (k1 0 : Int)) ∧ V.cell? ⟨Py, 2, none⟩ = some (.int .i64 (k1 1 : Int)) ∧ V.cell? ⟨Py, 3, none⟩ = some (.int .i64 (k1 2 : Int)) ∧ V.cell? ⟨Py, 4, none⟩ = some (.int .i64 (k1 3 : Int)) ∧ V.cell? ⟨Py, 5, none⟩ = some (.int .i64 (k1 4 : Int)) ∧ V.cell? ⟨Pu, 0, none⟩ = some (.int .i64 (n2 : Int)) ∧ V.cell? ⟨Pu, 1, none⟩ = some (.int .i64 (k2 0 : Int)) ∧ V.cell? ⟨Pu, 2, none⟩ = some (.int .i64 (k2 1 : Int)) ∧ V.cell? ⟨Pu, 3, none⟩ = some (.int .i64 (k2 2 : Int)) ∧ V.cell? ⟨Pu, 4, none⟩ = some (.int .i64 (k2 3 : Int)) ∧ V.cell? ⟨Pu, 5, none⟩ = some (.int .i64 (k2 4 : Int)) ∧ V.cell? ⟨Pv, 0, none⟩ = some (.int .i64 (n2 : Int)) ∧ V.cell? ⟨Pv, 1, none⟩ = some (.int .i64 (k2 0 : Int)) ∧ V.cell? ⟨Pv, 2, none⟩ = some (.int .i64 (k2 1 : Int)) ∧ V.cell? ⟨Pv, 3, none⟩ = some (.int .i64 (k2 2 : Int)) ∧ V.cell? ⟨Pv, 4, none⟩ = some (.int .i64 (k2 3 : Int)) ∧ V.cell? ⟨Pv, 5, none⟩ = some (.int .i64 (k2 4 : Int)) := fun V hV => ⟨hV, Z.out V hV⟩
  have HZ := Lib.hid Zs
  clear Zs
  go_cut [6] (fun r wx => r = .bool true ∧ Below W.heap.size W wx)
  case first =>
    go_region_held3 (fun V => Below W.heap.size W V ∧ V.cell? ⟨w.heap.size, 0, none⟩ = some (.int .i64 na) ∧ V.cell? ⟨w.heap.size, 1, none⟩ = some (.int .i64 (a 0)) ∧ V.cell? ⟨w.heap.size, 2, none⟩ = some (.int .i64 (a 1)) ∧ V.cell? ⟨w.heap.size, 3, none⟩ = some (.int .i64 (a 2)) ∧ V.cell? ⟨w.heap.size, 4, none⟩ = some (.int .i64 (a 3)) ∧ V.cell? ⟨w.heap.size, 5, none⟩ = some (.int .i64 (a 4)) ∧ V.cell? ⟨w.heap.size + 1, 0, none⟩ = some (.int .i64 nb) ∧ V.cell? ⟨w.heap.size + 1, 1, none⟩ = some (.int .i64 (b 0)) ∧ V.cell? ⟨w.heap.size + 1, 2, none⟩ = some (.int .i64 (b 1)) ∧ V.cell? ⟨w.heap.size + 1, 3, none⟩ = some (.int .i64 (b 2)) ∧ V.cell? ⟨w.heap.size + 1, 4, none⟩ = some (.int .i64 (b 3)) ∧ V.cell? ⟨w.heap.size + 1, 5, none⟩ = some (.int .i64 (b 4)) ∧ V.cell? ⟨Px, 0, none⟩ = some (.int .i64 (n1 : Int)) ∧ V.cell? ⟨Px, 1, none⟩ = some (.int .i64 (k1 0 : Int)) ∧ V.cell? ⟨Px, 2, none⟩ = some (.int .i64 (k1 1 : Int)) ∧ V.cell? ⟨Px, 3, none⟩ = some (.int .i64 (k1 2 : Int)) ∧ V.cell? ⟨Px, 4, none⟩ = some (.int .i64 (k1 3 : Int)) ∧ V.cell? ⟨Px, 5, none⟩ = some (.int .i64 (k1 4 : Int)) ∧ V.cell? ⟨Py, 0, none⟩ = some (.int .i64 (n1 : Int)) ∧ V.cell? ⟨Py, 1, none⟩ = some (.int .i64 (k1 0 : Int)) ∧ V.cell? ⟨Py, 2, none⟩ = some (.int .i64 (k1 1 : Int)) ∧ V.cell? ⟨Py, 3, none⟩ = some (.int .i64 (k1 2 : Int)) ∧ V.cell? ⟨Py, 4, none⟩ = some (.int .i64 (k1 3 : Int)) ∧ V.cell? ⟨Py, 5, none⟩ = some (.int .i64 (k1 4 : Int)) ∧ V.cell? ⟨Pu, 0, none⟩ = some (.int .i64 (n2 : Int)) ∧ V.cell? ⟨Pu, 1, none⟩ = some (.int .i64 (k2 0 : Int)) ∧ V.cell? ⟨Pu, 2, none⟩ = some (.int .i64 (k2 1 : Int)) ∧ V.cell? ⟨Pu, 3, none⟩ = some (.int .i64 (k2 2 : Int)) ∧ V.cell? ⟨Pu, 4, none⟩ = some (.int .i64 (k2 3 : Int)) ∧ V.cell? ⟨Pu, 5, none⟩ = some (.int .i64 (k2 4 : Int)) ∧ V.cell? ⟨Pv, 0, none⟩ = some (.int .i64 (n2 : Int)) ∧ V.cell? ⟨Pv, 1, none⟩ = some (.int .i64 (k2 0 : Int)) ∧ V.cell? ⟨Pv, 2, none⟩ = some (.int .i64 (k2 1 : Int)) ∧ V.cell? ⟨Pv, 3, none⟩ = some (.int .i64 (k2 2 : Int)) ∧ V.cell? ⟨Pv, 4, none⟩ = some (.int .i64 (k2 3 : Int)) ∧ V.cell? ⟨Pv, 5, none⟩ = some (.int .i64 (k2 4 : Int))) (first | exact HZ.out _ (below_dn 1 (Below.refl _ _)) | exact HZ.out _ (Below.refl _ _) | exact HZ.out _ (by assumption)) (first | (go_at_call 12; refine (HC.out _).mono ?_; rintro e y1 ⟨rfl, hz1⟩; have kk1 : Below W.heap.size W y1 := Below.trans (by first | assumption | exact And.left (by assumption)) (Joins.below_le hz1 (Below.size (by first | assumption | exact And.left (by assumption))))) | (go_at_call 13; refine (HD.out _).mono ?_; rintro e y2 ⟨rfl, hz2⟩; have kk2 : Below W.heap.size W y2 := Below.trans (by first | assumption | exact And.left (by assumption)) (Joins.below_le hz2 (Below.size (by first | assumption | exact And.left (by assumption))))) | (go_at_call 14; refine (HE.out _).mono ?_; rintro e y3 ⟨rfl, hz3⟩; have kk3 : Below W.heap.size W y3 := Below.trans (by first | assumption | exact And.left (by assumption)) (Joins.below_le hz3 (Below.size (by first | assumption | exact And.left (by assumption))))) | (go_at_call 15; refine (HF.out _).mono ?_; rintro e y4 ⟨rfl, hz4⟩; have kk4 : Below W.heap.size W y4 := Below.trans (by first | assumption | exact And.left (by assumption)) (Joins.below_le hz4 (Below.size (by first | assumption | exact And.left (by assumption))))) | (go_at_call 16; refine (HW.out _).mono ?_; rintro e y5 ⟨rfl, hz5⟩; have kk5 : Below W.heap.size W y5 := Below.trans (by first | assumption | exact And.left (by assumption)) (Joins.below_le hz5 (Below.size (by first | assumption | exact And.left (by assumption))))))
    all_goals
      go_wp2_with fail
      go_meet
      exact ⟨rfl, by first | assumption | exact below_dn 1 (by assumption)⟩
  case rest =>
    obtain ⟨rfl, hb⟩ := hcut
    go_wp2_with fail
    go_ret
    exact ⟨rfl, HB5.out.trans (Joins.below_le hb HB5.out.size)⟩
end Go.Proofs.YtlkhbfaoebgmkaaDoor
