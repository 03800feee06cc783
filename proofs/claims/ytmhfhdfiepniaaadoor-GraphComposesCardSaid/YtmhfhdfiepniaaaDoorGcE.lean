/- The walk of roundtablelaw03.GraphComposes for whatever graphs: the package and the specification answer alike. -/
import Derived.Test.YtmhfhdfiepniaaaDoorGcD
import Derived.Test.YtmhfhdfiepniaaaDoorGcB
import Derived.Test.YtmhfhdfiepniaaaDoorGrN
import Derived.Test.YtmhfhdfiepniaaaDoorPmA
import Derived.Test.YtmhfhdfiepniaaaDoorPmM
import Derived.Test.YtmhfhdfiepniaaaDoorPmD
import Derived.Test.YtmhfhdfiepniaaaDoorGrR
import Derived.Test.YtmhfhdfiepniaaaDoorTb
import Derived.LoopTactic
import Derived.Deep.RegionWith
import Derived.WalkKit
import Derived.WalkSpells
import Derived.WalkLawsBesides
import Derived.Handy
import Derived.Deep.QuietTactic
import Derived.BigQuiet
import Derived.Outline
import Derived.Laws.BitsAllLaws
import Derived.IntWalk
import Derived.Lib.SmallJoins
import Derived.Lib.Hide
namespace Go.Proofs.YtmhfhdfiepniaaaDoor
set_option linter.unusedVariables false
set_option linter.unusedSimpArgs false
open Go.RowKit

theorem rng_of'' {n : Nat} {k : Nat → Nat} (h : WF n k) : Rng (fun p => (k p : Int)) := by
  intro p hp
  obtain ⟨⟨h1, h2⟩, h3, h4⟩ := h
  by_cases hn : p < n
  · have := pow_small h2 (h3 p hn).1
    show _ ≤ ((k p : Nat) : Int) ∧ ((k p : Nat) : Int) ≤ _
    omega
  · have := h4 p (by omega) hp
    show _ ≤ ((k p : Nat) : Int) ∧ ((k p : Nat) : Int) ≤ _
    omega

theorem wf_of' {N : Nat} {x : Nat → Int} (h : WFI (N : Int) x) : WF N (fun p => (x p).toNat) ∧ ∀ p, p < 5 → x p = (((x p).toNat : Nat) : Int) := by
  have hr : ∀ p, p < 5 → okRow N p (x p) := fun p hp => h.2 p hp
  have hn := h.1
  refine ⟨⟨by omega, fun p hp => ?_, fun p hp h5 => ?_⟩, fun p hp => ?_⟩
  · have := hr p (by omega)
    unfold okRow at this
    rw [if_pos hp] at this
    exact ⟨by show (x p).toNat < 2 ^ N; omega, this.2.2⟩
  · have := hr p h5
    unfold okRow at this
    rw [if_neg (by omega)] at this
    show (x p).toNat = 0
    rw [this]; rfl
  · have := hr p hp
    unfold okRow at this
    by_cases hpn : p < N
    · rw [if_pos hpn] at this; omega
    · rw [if_neg hpn] at this; omega

theorem iv_of {N : Nat} {x : Nat → Int} (h : WFI (N : Int) x) : iv (N : Int) x = gv N (fun p => (x p).toNat) := by
  obtain ⟨_, e⟩ := wf_of' h
  unfold iv gv
  rw [e 0 (by omega), e 1 (by omega), e 2 (by omega), e 3 (by omega), e 4 (by omega)]

/-- Two functions answer alike: some graph, and some number. -/
def Alike (f g : FuncId) (args : Array Value) : Prop := ∃ (n : Nat) (k : Nat → Nat) (c : Int),
  (∀ w, Calls Tryd.prog f args w fun e w' => e = .returned (.tuple #[gv n k, .int .i64 c]) ∧ Below w.heap.size w w') ∧ ∀ w, Calls Tryd.prog g args w fun e w' => e = .returned (.tuple #[gv n k, .int .i64 c]) ∧ Below w.heap.size w w'

theorem alike_compose (na nb : Int) (a b : Nat → Int) (ra : Rng a) (rb : Rng b) : Alike 7 8 #[iv na a, iv nb b] := by
  by_cases h : gcode2 na nb a b = 0
  · obtain ⟨⟨ka, kb⟩, rfl⟩ := gcode2_zero h
    obtain ⟨N, rfl⟩ := Int.eq_ofNat_of_zero_le (show 0 ≤ na by have := ka.1; omega)
    have wa := (wf_of' ka).1
    have wb := (wf_of' kb).1
    rw [iv_of ka, iv_of kb]
    exact ⟨N, _, 0, fun w => compose_ok N _ _ wa wb w, fun w => rcompose_ok N _ _ wa wb (rng_of'' wa) (rng_of'' wb) w⟩
  · exact ⟨0, fun _ => 0, gcode2 na nb a b, fun w => compose_bad na nb a b ra rb h w, fun w => rcompose_bad na nb a b ra rb h w⟩

theorem alike_union (na nb : Int) (a b : Nat → Int) (ra : Rng a) (rb : Rng b) : Alike 9 10 #[iv na a, iv nb b] := by
  by_cases h : gcode2 na nb a b = 0
  · obtain ⟨⟨ka, kb⟩, rfl⟩ := gcode2_zero h
    obtain ⟨N, rfl⟩ := Int.eq_ofNat_of_zero_le (show 0 ≤ na by have := ka.1; omega)
    have wa := (wf_of' ka).1
    have wb := (wf_of' kb).1
    rw [iv_of ka, iv_of kb]
    exact ⟨N, _, 0, fun w => union_ok N _ _ wa wb w, fun w => runion_ok N _ _ wa wb (rng_of'' wa) (rng_of'' wb) w⟩
  · exact ⟨0, fun _ => 0, gcode2 na nb a b, fun w => union_bad na nb a b ra rb h w, fun w => runion_bad na nb a b ra rb h w⟩

theorem alike_reverse (n : Int) (a : Nat → Int) (ra : Rng a) : Alike 11 12 #[iv n a] := by
  by_cases h : gcode n a = 0
  · have ka := gcode_zero h
    obtain ⟨N, rfl⟩ := Int.eq_ofNat_of_zero_le (show 0 ≤ n by have := ka.1; omega)
    have wa := (wf_of' ka).1
    rw [iv_of ka]
    exact ⟨N, _, 0, fun w => reverse_ok N _ wa w, fun w => rreverse_ok N _ wa (rng_of'' wa) w⟩
  · exact ⟨0, fun _ => 0, gcode n a, fun w => reverse_bad n a ra h w, fun w => rreverse_bad n a ra h w⟩

set_option maxRecDepth 100000 in
set_option maxHeartbeats 4000000 in
theorem composes_any (na nb : Int) (a b : Nat → Int) (ra : Rng a) (rb : Rng b) (w : World)
    (awake_ok : ∀ w, Calls Tryd.prog 13 #[] w fun e w' => e = .returned (.bool true) ∧ Below w.heap.size w w') :
    Calls Tryd.prog 3 #[iv na a, iv nb b] w fun e w' => e = .returned (.bool true) ∧ Below w.heap.size w w' := by
  have heql := run_eql_g
  have hneq := run_neq_g
  obtain ⟨n1, k1, c1, P1, R1⟩ := alike_compose na nb a b ra rb
  obtain ⟨n2, k2, c2, P2, R2⟩ := alike_union na nb a b ra rb
  obtain ⟨n3, k3, c3, P3, R3⟩ := alike_reverse na a ra
  have t1 : geq n1 n1 (k1 0) (k1 1) (k1 2) (k1 3) (k1 4) (k1 0) (k1 1) (k1 2) (k1 3) (k1 4) = true := geq_self _ _ _ _ _ _ _ _ _ _ _ rfl rfl rfl rfl rfl
  have t2 : geq n2 n2 (k2 0) (k2 1) (k2 2) (k2 3) (k2 4) (k2 0) (k2 1) (k2 2) (k2 3) (k2 4) = true := geq_self _ _ _ _ _ _ _ _ _ _ _ rfl rfl rfl rfl rfl
  have t3 : geq n3 n3 (k3 0) (k3 1) (k3 2) (k3 3) (k3 4) (k3 0) (k3 1) (k3 2) (k3 3) (k3 4) = true := geq_self _ _ _ _ _ _ _ _ _ _ _ rfl rfl rfl rfl rfl
  have HP1 := Lib.hid P1
  have HR1 := Lib.hid R1
  have HP2 := Lib.hid P2
  have HR2 := Lib.hid R2
  have HP3 := Lib.hid P3
  have HR3 := Lib.hid R3
  have HW := Lib.hid awake_ok
  clear P1 R1 P2 R2 P3 R3 awake_ok ra rb
  go_enter Tryd.func3, Tryd.ntmps3
  go_wp2_with fail
  have Ga : G6 ((w.alloc (.cells #[.int .i64 na, .int .i64 (a 0), .int .i64 (a 1), .int .i64 (a 2), .int .i64 (a 3), .int .i64 (a 4)] 24)).alloc (.cells #[.int .i64 nb, .int .i64 (b 0), .int .i64 (b 1), .int .i64 (b 2), .int .i64 (b 3), .int .i64 (b 4)] 24)) w.heap.size #[.int .i64 na, .int .i64 (a 0), .int .i64 (a 1), .int .i64 (a 2), .int .i64 (a 3), .int .i64 (a 4)] := (G6.new w _ 24).alloc _
  have Gb : G6 ((w.alloc (.cells #[.int .i64 na, .int .i64 (a 0), .int .i64 (a 1), .int .i64 (a 2), .int .i64 (a 3), .int .i64 (a 4)] 24)).alloc (.cells #[.int .i64 nb, .int .i64 (b 0), .int .i64 (b 1), .int .i64 (b 2), .int .i64 (b 3), .int .i64 (b 4)] 24)) (w.heap.size + 1) #[.int .i64 nb, .int .i64 (b 0), .int .i64 (b 1), .int .i64 (b 2), .int .i64 (b 3), .int .i64 (b 4)] := G6.at_ (by simp) _ 24
  have B0 : Below w.heap.size w ((w.alloc (.cells #[.int .i64 na, .int .i64 (a 0), .int .i64 (a 1), .int .i64 (a 2), .int .i64 (a 3), .int .i64 (a 4)] 24)).alloc (.cells #[.int .i64 nb, .int .i64 (b 0), .int .i64 (b 1), .int .i64 (b 2), .int .i64 (b 3), .int .i64 (b 4)] 24)) := ((Below.refl _ _).alloc (Nat.le_refl _) _).alloc (by simp) _
  refine (HP1.out _).mono ?_
  rintro e w1 ⟨rfl, hb1⟩
  replace Ga := Ga.below hb1
  replace Gb := Gb.below hb1
  have B1 := B0.trans (Joins.below_le hb1 B0.size)
  clear B0 hb1
  have qa := Ga.lt
  have fa0 := Ga.cell 0
  have fa1 := Ga.cell 1
  have fa2 := Ga.cell 2
  have fa3 := Ga.cell 3
  have fa4 := Ga.cell 4
  have fa5 := Ga.cell 5
  simp at fa0 fa1 fa2 fa3 fa4 fa5
  have qb := Gb.lt
  have fb0 := Gb.cell 0
  have fb1 := Gb.cell 1
  have fb2 := Gb.cell 2
  have fb3 := Gb.cell 3
  have fb4 := Gb.cell 4
  have fb5 := Gb.cell 5
  simp at fb0 fb1 fb2 fb3 fb4 fb5
  go_wp2_with fail
  refine (HR1.out _).mono ?_
  rintro e w2 ⟨rfl, hb2⟩
  clear qa qb fa0 fa1 fa2 fa3 fa4 fa5 fb0 fb1 fb2 fb3 fb4 fb5
  replace Ga := (Ga.alloc _).below hb2
  replace Gb := (Gb.alloc _).below hb2
  have Gx : G6 w2 w1.heap.size #[.int .i64 (n1 : Int), .int .i64 (k1 0 : Int), .int .i64 (k1 1 : Int), .int .i64 (k1 2 : Int), .int .i64 (k1 3 : Int), .int .i64 (k1 4 : Int)] := (G6.new w1 _ 24).below hb2
  have B2 := B1.trans (Joins.below_le (fresh_below hb2) B1.size)
  clear B1 hb2
  have qa := Ga.lt
  have fa0 := Ga.cell 0
  have fa1 := Ga.cell 1
  have fa2 := Ga.cell 2
  have fa3 := Ga.cell 3
  have fa4 := Ga.cell 4
  have fa5 := Ga.cell 5
  simp at fa0 fa1 fa2 fa3 fa4 fa5
  have qb := Gb.lt
  have fb0 := Gb.cell 0
  have fb1 := Gb.cell 1
  have fb2 := Gb.cell 2
  have fb3 := Gb.cell 3
  have fb4 := Gb.cell 4
  have fb5 := Gb.cell 5
  simp at fb0 fb1 fb2 fb3 fb4 fb5
  go_wp2_with fail
  refine (HP2.out _).mono ?_
  rintro e w3 ⟨rfl, hb3⟩
  clear qa qb fa0 fa1 fa2 fa3 fa4 fa5 fb0 fb1 fb2 fb3 fb4 fb5
  replace Ga := (Ga.alloc _).below hb3
  replace Gb := (Gb.alloc _).below hb3
  replace Gx := (Gx.alloc _).below hb3
  have Gy : G6 w3 w2.heap.size #[.int .i64 (n1 : Int), .int .i64 (k1 0 : Int), .int .i64 (k1 1 : Int), .int .i64 (k1 2 : Int), .int .i64 (k1 3 : Int), .int .i64 (k1 4 : Int)] := (G6.new w2 _ 24).below hb3
  have B3 := B2.trans (Joins.below_le (fresh_below hb3) B2.size)
  clear B2 hb3
  have qa := Ga.lt
  have fa0 := Ga.cell 0
  have fa1 := Ga.cell 1
  have fa2 := Ga.cell 2
  have fa3 := Ga.cell 3
  have fa4 := Ga.cell 4
  have fa5 := Ga.cell 5
  simp at fa0 fa1 fa2 fa3 fa4 fa5
  have qb := Gb.lt
  have fb0 := Gb.cell 0
  have fb1 := Gb.cell 1
  have fb2 := Gb.cell 2
  have fb3 := Gb.cell 3
  have fb4 := Gb.cell 4
  have fb5 := Gb.cell 5
  simp at fb0 fb1 fb2 fb3 fb4 fb5
  go_wp2_with fail
  refine (HR2.out _).mono ?_
  rintro e w4 ⟨rfl, hb4⟩
  clear qa qb fa0 fa1 fa2 fa3 fa4 fa5 fb0 fb1 fb2 fb3 fb4 fb5
  replace Ga := (Ga.alloc _).below hb4
  replace Gb := (Gb.alloc _).below hb4
  replace Gx := (Gx.alloc _).below hb4
  replace Gy := (Gy.alloc _).below hb4
  have Gu : G6 w4 w3.heap.size #[.int .i64 (n2 : Int), .int .i64 (k2 0 : Int), .int .i64 (k2 1 : Int), .int .i64 (k2 2 : Int), .int .i64 (k2 3 : Int), .int .i64 (k2 4 : Int)] := (G6.new w3 _ 24).below hb4
  have B4 := B3.trans (Joins.below_le (fresh_below hb4) B3.size)
  clear B3 hb4
  have qa := Ga.lt
  have fa0 := Ga.cell 0
  have fa1 := Ga.cell 1
  have fa2 := Ga.cell 2
  have fa3 := Ga.cell 3
  have fa4 := Ga.cell 4
  have fa5 := Ga.cell 5
  simp at fa0 fa1 fa2 fa3 fa4 fa5
  go_wp2_with fail
  refine (HP3.out _).mono ?_
  rintro e w5 ⟨rfl, hb5⟩
  clear qa fa0 fa1 fa2 fa3 fa4 fa5
  replace Ga := (Ga.alloc _).below hb5
  replace Gb := (Gb.alloc _).below hb5
  replace Gu := (Gu.alloc _).below hb5
  replace Gx := (Gx.alloc _).below hb5
  replace Gy := (Gy.alloc _).below hb5
  have Gv : G6 w5 w4.heap.size #[.int .i64 (n2 : Int), .int .i64 (k2 0 : Int), .int .i64 (k2 1 : Int), .int .i64 (k2 2 : Int), .int .i64 (k2 3 : Int), .int .i64 (k2 4 : Int)] := (G6.new w4 _ 24).below hb5
  have B5 := B4.trans (Joins.below_le (fresh_below hb5) B4.size)
  clear B4 hb5
  have qa := Ga.lt
  have fa0 := Ga.cell 0
  have fa1 := Ga.cell 1
  have fa2 := Ga.cell 2
  have fa3 := Ga.cell 3
  have fa4 := Ga.cell 4
  have fa5 := Ga.cell 5
  simp at fa0 fa1 fa2 fa3 fa4 fa5
  go_wp2_with fail
  refine (HR3.out _).mono ?_
  rintro e w6 ⟨rfl, hb6⟩
  clear qa fa0 fa1 fa2 fa3 fa4 fa5
  replace Ga := (Ga.alloc _).below hb6
  replace Gb := (Gb.alloc _).below hb6
  replace Gu := (Gu.alloc _).below hb6
  replace Gv := (Gv.alloc _).below hb6
  replace Gx := (Gx.alloc _).below hb6
  replace Gy := (Gy.alloc _).below hb6
  have Gr : G6 w6 w5.heap.size #[.int .i64 (n3 : Int), .int .i64 (k3 0 : Int), .int .i64 (k3 1 : Int), .int .i64 (k3 2 : Int), .int .i64 (k3 3 : Int), .int .i64 (k3 4 : Int)] := (G6.new w5 _ 24).below hb6
  have B6 := B5.trans (Joins.below_le (fresh_below hb6) B5.size)
  clear B5 hb6
  have qx := Gx.lt
  have fx0 := Gx.cell 0
  have fx1 := Gx.cell 1
  have fx2 := Gx.cell 2
  have fx3 := Gx.cell 3
  have fx4 := Gx.cell 4
  have fx5 := Gx.cell 5
  simp at fx0 fx1 fx2 fx3 fx4 fx5
  have qy := Gy.lt
  have fy0 := Gy.cell 0
  have fy1 := Gy.cell 1
  have fy2 := Gy.cell 2
  have fy3 := Gy.cell 3
  have fy4 := Gy.cell 4
  have fy5 := Gy.cell 5
  simp at fy0 fy1 fy2 fy3 fy4 fy5
  have qu := Gu.lt
  have fu0 := Gu.cell 0
  have fu1 := Gu.cell 1
  have fu2 := Gu.cell 2
  have fu3 := Gu.cell 3
  have fu4 := Gu.cell 4
  have fu5 := Gu.cell 5
  simp at fu0 fu1 fu2 fu3 fu4 fu5
  have qv := Gv.lt
  have fv0 := Gv.cell 0
  have fv1 := Gv.cell 1
  have fv2 := Gv.cell 2
  have fv3 := Gv.cell 3
  have fv4 := Gv.cell 4
  have fv5 := Gv.cell 5
  simp at fv0 fv1 fv2 fv3 fv4 fv5
  have qr := Gr.lt
  have fr0 := Gr.cell 0
  have fr1 := Gr.cell 1
  have fr2 := Gr.cell 2
  have fr3 := Gr.cell 3
  have fr4 := Gr.cell 4
  have fr5 := Gr.cell 5
  simp at fr0 fr1 fr2 fr3 fr4 fr5
  go_wp2_with fail
  refine (HW.out _).mono ?_
  rintro e w7 ⟨rfl, hb7⟩
  clear qx qy qu qv qr fx0 fx1 fx2 fx3 fx4 fx5 fy0 fy1 fy2 fy3 fy4 fy5 fu0 fu1 fu2 fu3 fu4 fu5 fv0 fv1 fv2 fv3 fv4 fv5 fr0 fr1 fr2 fr3 fr4 fr5
  replace Ga := (Ga.alloc _).below hb7
  replace Gb := (Gb.alloc _).below hb7
  replace Gr := (Gr.alloc _).below hb7
  replace Gu := (Gu.alloc _).below hb7
  replace Gv := (Gv.alloc _).below hb7
  replace Gx := (Gx.alloc _).below hb7
  replace Gy := (Gy.alloc _).below hb7
  have Gs : G6 w7 w6.heap.size #[.int .i64 (n3 : Int), .int .i64 (k3 0 : Int), .int .i64 (k3 1 : Int), .int .i64 (k3 2 : Int), .int .i64 (k3 3 : Int), .int .i64 (k3 4 : Int)] := (G6.new w6 _ 24).below hb7
  have B7 := B6.trans (Joins.below_le (fresh_below hb7) B6.size)
  clear B6 hb7
  go_wp2_with fail
  go_ret
  exact ⟨rfl, B7⟩
end Go.Proofs.YtmhfhdfiepniaaaDoor
