/- The walk of roundtablelaw03.GraphAssociates where the three graphs are well-formed and of one size: it returns true, and changes nothing that was there. -/
import Derived.Test.YtmhfhdfiepniaaaDoorGsC
import Derived.Test.YtmhfhdfiepniaaaDoorTb
import Derived.Test.YtmhfhdfiepniaaaDoorGrN
import Derived.Test.YtmhfhdfiepniaaaDoorGrR
import Derived.Test.YtmhfhdfiepniaaaDoorPmA
import Derived.Test.YtmhfhdfiepniaaaDoorPmM
import Derived.Test.YtmhfhdfiepniaaaDoorPmD
import Derived.Deep.MidRow
import Derived.Deep.DeepCutAuto
import Derived.Deep.RegionWith
import Derived.WalkKit
import Derived.WalkSpells
import Derived.WalkLawsBesides
import Derived.Handy
import Derived.Deep.QuietTactic
import Derived.BigQuiet
import Derived.Outline
import Derived.Laws.BitsAllLaws
import Derived.IntWalk
import Derived.Lib.SmallJoins
import Derived.Lib.Hide
namespace Go.Proofs.YtmhfhdfiepniaaaDoor
set_option linter.unusedVariables false
set_option linter.unusedSimpArgs false
open Go.RowKit

/-- Three blocks with the three graphs. -/
def Laid3 (N : Nat) (a b c : Nat → Nat) (w : World) (p q r : Value) (wx : World) : Prop :=
  ∃ A B C : Nat, (p = .pointer (some ⟨A, 0, none⟩) ∧ q = .pointer (some ⟨B, 0, none⟩) ∧ r = .pointer (some ⟨C, 0, none⟩)) ∧ Box wx A #[.int .i64 (N : Int), .int .i64 (a 0 : Int), .int .i64 (a 1 : Int), .int .i64 (a 2 : Int), .int .i64 (a 3 : Int), .int .i64 (a 4 : Int)] 24 ∧ Box wx B #[.int .i64 (N : Int), .int .i64 (b 0 : Int), .int .i64 (b 1 : Int), .int .i64 (b 2 : Int), .int .i64 (b 3 : Int), .int .i64 (b 4 : Int)] 24 ∧ Box wx C #[.int .i64 (N : Int), .int .i64 (c 0 : Int), .int .i64 (c 1 : Int), .int .i64 (c 2 : Int), .int .i64 (c 3 : Int), .int .i64 (c 4 : Int)] 24 ∧ Below w.heap.size w wx

theorem Box.g6 {w : World} {b : Nat} {c : Array Value} {t : TypeId} (h : Box w b c t) : G6 w b c := ⟨h.lt, h.cell⟩

theorem Box.new' {w : World} {n : Nat} (hn : n = w.heap.size) (c : Array Value) (t : TypeId) : Box (w.alloc (.cells c t)) n c t := by subst hn; exact Box.new w c t

theorem rng_of {n : Nat} {k : Nat → Nat} (h : WF n k) : Rng (fun p => (k p : Int)) := by
  intro p hp
  obtain ⟨⟨h1, h2⟩, h3, h4⟩ := h
  by_cases hn : p < n
  · have := pow_small h2 (h3 p hn).1
    show _ ≤ ((k p : Nat) : Int) ∧ ((k p : Nat) : Int) ≤ _
    omega
  · have := h4 p (by omega) hp
    show _ ≤ ((k p : Nat) : Int) ∧ ((k p : Nat) : Int) ≤ _
    omega

set_option maxRecDepth 100000 in
set_option maxHeartbeats 16000000 in
theorem assoc_yes (N : Nat) (a b c : Nat → Nat) (ha : WF N a) (hb : WF N b) (hc : WF N c) (w : World)
    (awake_ok : ∀ w, Calls Tryd.prog 13 #[] w fun e w' => e = .returned (.bool true) ∧ Below w.heap.size w w') :
    Calls Tryd.prog 5 #[iv3 N N N (fun p => (a p : Int)) (fun p => (b p : Int)) (fun p => (c p : Int))] w fun e w' => e = .returned (.bool true) ∧ Below w.heap.size w w' := by
  have h1 : 1 ≤ N := ha.1.1
  have h5 : N ≤ 5 := ha.1.2
  have heql := run_eql_g
  have hneq := run_neq_g
  have HA := Lib.hid awake_ok
  have H3 := Lib.hid (fun w => three_yes (N : Int) _ _ _ (rng_of ha) (rng_of hb) (rng_of hc) (wfi_of ha) (wfi_of hb) (wfi_of hc) w)
  clear awake_ok
  obtain ⟨AB, hAB⟩ : ∃ g, prod N a b = g := ⟨_, rfl⟩
  have wAB : WF N AB := hAB ▸ wf_prod ha hb
  have cAB := fun w => compose_ok N a b ha hb w
  rw [hAB] at cAB
  have CAB := Lib.hid cAB
  clear cAB
  obtain ⟨LE, hLE⟩ : ∃ g, prod N AB c = g := ⟨_, rfl⟩
  have wLE : WF N LE := hLE ▸ wf_prod wAB hc
  have cLE := fun w => compose_ok N AB c wAB hc w
  rw [hLE] at cLE
  have CLE := Lib.hid cLE
  clear cLE
  obtain ⟨BC, hBC⟩ : ∃ g, prod N b c = g := ⟨_, rfl⟩
  have wBC : WF N BC := hBC ▸ wf_prod hb hc
  have cBC := fun w => compose_ok N b c hb hc w
  rw [hBC] at cBC
  have CBC := Lib.hid cBC
  clear cBC
  obtain ⟨RI, hRI⟩ : ∃ g, prod N a BC = g := ⟨_, rfl⟩
  have wRI : WF N RI := hRI ▸ wf_prod ha wBC
  have cRI := fun w => compose_ok N a BC ha wBC w
  rw [hRI] at cRI
  have CRI := Lib.hid cRI
  clear cRI
  obtain ⟨U, hU⟩ : ∃ g, (fun p => b p ||| c p) = g := ⟨_, rfl⟩
  have wU : WF N U := hU ▸ wf_or hb hc
  have cU := fun w => union_ok N b c hb hc w
  rw [hU] at cU
  have CU := Lib.hid cU
  clear cU
  obtain ⟨X, hX⟩ : ∃ g, prod N a U = g := ⟨_, rfl⟩
  have wX : WF N X := hX ▸ wf_prod ha wU
  have cX := fun w => compose_ok N a U ha wU w
  rw [hX] at cX
  have CX := Lib.hid cX
  clear cX
  obtain ⟨AC, hAC⟩ : ∃ g, prod N a c = g := ⟨_, rfl⟩
  have wAC : WF N AC := hAC ▸ wf_prod ha hc
  have cAC := fun w => compose_ok N a c ha hc w
  rw [hAC] at cAC
  have CAC := Lib.hid cAC
  clear cAC
  obtain ⟨Y, hY⟩ : ∃ g, (fun p => AB p ||| AC p) = g := ⟨_, rfl⟩
  have wY : WF N Y := hY ▸ wf_or wAB wAC
  have cY := fun w => union_ok N AB AC wAB wAC w
  rw [hY] at cY
  have CY := Lib.hid cY
  clear cY
  obtain ⟨Z, hZ⟩ : ∃ g, prod N U a = g := ⟨_, rfl⟩
  have wZ : WF N Z := hZ ▸ wf_prod wU ha
  have cZ := fun w => compose_ok N U a wU ha w
  rw [hZ] at cZ
  have CZ := Lib.hid cZ
  clear cZ
  obtain ⟨BA, hBA⟩ : ∃ g, prod N b a = g := ⟨_, rfl⟩
  have wBA : WF N BA := hBA ▸ wf_prod hb ha
  have cBA := fun w => compose_ok N b a hb ha w
  rw [hBA] at cBA
  have CBA := Lib.hid cBA
  clear cBA
  obtain ⟨CA, hCA⟩ : ∃ g, prod N c a = g := ⟨_, rfl⟩
  have wCA : WF N CA := hCA ▸ wf_prod hc ha
  have cCA := fun w => compose_ok N c a hc ha w
  rw [hCA] at cCA
  have CCA := Lib.hid cCA
  clear cCA
  obtain ⟨V, hV⟩ : ∃ g, (fun p => BA p ||| CA p) = g := ⟨_, rfl⟩
  have wV : WF N V := hV ▸ wf_or wBA wCA
  have cV := fun w => union_ok N BA CA wBA wCA w
  rw [hV] at cV
  have CV := Lib.hid cV
  clear cV
  obtain ⟨SI, hSI⟩ : ∃ g, sil N = g := ⟨_, rfl⟩
  have wSI : WF N SI := hSI ▸ wf_sil ⟨h1, h5⟩
  have cSI := fun w => silent_ok N ⟨h1, h5⟩ w
  rw [hSI] at cSI
  have CSI := Lib.hid cSI
  clear cSI
  obtain ⟨AS, hAS⟩ : ∃ g, prod N a SI = g := ⟨_, rfl⟩
  have wAS : WF N AS := hAS ▸ wf_prod ha wSI
  have cAS := fun w => compose_ok N a SI ha wSI w
  rw [hAS] at cAS
  have CAS := Lib.hid cAS
  clear cAS
  obtain ⟨SA, hSA⟩ : ∃ g, prod N SI a = g := ⟨_, rfl⟩
  have wSA : WF N SA := hSA ▸ wf_prod wSI ha
  have cSA := fun w => compose_ok N SI a wSI ha w
  rw [hSA] at cSA
  have CSA := Lib.hid cSA
  clear cSA
  have e1 : ∀ p, p < 5 → LE p = RI p := fun p hp => by rw [← hLE, ← hRI, ← hAB, ← hBC]; exact prod_assoc ha hb hc hp
  have e2 : ∀ p, p < 5 → X p = Y p := fun p hp => by rw [← hX, ← hY, ← hU, ← hAB, ← hAC]; exact prod_or_r ha hb hc hp
  have e3 : ∀ p, p < 5 → Z p = V p := fun p hp => by rw [← hZ, ← hV, ← hU, ← hBA, ← hCA]; exact prod_or hb hc ha hp
  have e4 : ∀ p, p < 5 → AS p = a p := fun p hp => by rw [← hAS, ← hSI]; exact prod_sil_r ha hp
  have e5 : ∀ p, p < 5 → SA p = a p := fun p hp => by rw [← hSA, ← hSI]; exact prod_sil ha hp
  have t1 : geq N N (LE 0) (LE 1) (LE 2) (LE 3) (LE 4) (RI 0) (RI 1) (RI 2) (RI 3) (RI 4) = true := geq_self _ _ _ _ _ _ _ _ _ _ _ (e1 0 (by omega)) (e1 1 (by omega)) (e1 2 (by omega)) (e1 3 (by omega)) (e1 4 (by omega))
  have t2 : geq N N (X 0) (X 1) (X 2) (X 3) (X 4) (Y 0) (Y 1) (Y 2) (Y 3) (Y 4) = true := geq_self _ _ _ _ _ _ _ _ _ _ _ (e2 0 (by omega)) (e2 1 (by omega)) (e2 2 (by omega)) (e2 3 (by omega)) (e2 4 (by omega))
  have t3 : geq N N (Z 0) (Z 1) (Z 2) (Z 3) (Z 4) (V 0) (V 1) (V 2) (V 3) (V 4) = true := geq_self _ _ _ _ _ _ _ _ _ _ _ (e3 0 (by omega)) (e3 1 (by omega)) (e3 2 (by omega)) (e3 3 (by omega)) (e3 4 (by omega))
  have t4 : geq N N (AS 0) (AS 1) (AS 2) (AS 3) (AS 4) (a 0) (a 1) (a 2) (a 3) (a 4) = true := geq_self _ _ _ _ _ _ _ _ _ _ _ (e4 0 (by omega)) (e4 1 (by omega)) (e4 2 (by omega)) (e4 3 (by omega)) (e4 4 (by omega))
  have t5 : geq N N (SA 0) (SA 1) (SA 2) (SA 3) (SA 4) (a 0) (a 1) (a 2) (a 3) (a 4) = true := geq_self _ _ _ _ _ _ _ _ _ _ _ (e5 0 (by omega)) (e5 1 (by omega)) (e5 2 (by omega)) (e5 3 (by omega)) (e5 4 (by omega))
  clear ha hb hc e1 e2 e3 e4 e5 hAB wAB hLE wLE hBC wBC hRI wRI hU wU hX wX hAC wAC hY wY hZ wZ hBA wBA hCA wCA hV wV hSI wSI hAS wAS hSA wSA
  have hI : (Tryd.prog.info? 38).map (·.size) = some (icells3 N N N (fun p => (a p : Int)) (fun p => (b p : Int)) (fun p => (c p : Int))).toList.length := rfl
  go_enter Tryd.func5, Tryd.ntmps5
  go_wp2_with (refine wpList_load_mid rfl 38 _ rfl w.heap.size 0 rfl _ _ (rangeAt_new w (icells3 N N N (fun p => (a p : Int)) (fun p => (b p : Int)) (fun p => (c p : Int))) _) Tryd.underlying38 rfl hI ?_)
  refine (H3.out _).mono ?_
  rintro e w1 ⟨rfl, hb1⟩
  have z : ∀ i, w1.cell? ⟨w.heap.size, i, none⟩ = (icells3 N N N (fun p => (a p : Int)) (fun p => (b p : Int)) (fun p => (c p : Int)))[i]? := fun i => fresh_cell hb1 i
  have z0 := z 0
  have z1 := z 1
  have z2 := z 2
  have z3 := z 3
  have z4 := z 4
  have z5 := z 5
  have z6 := z 6
  have z7 := z 7
  have z8 := z 8
  have z9 := z 9
  have z10 := z 10
  have z11 := z 11
  have z12 := z 12
  have z13 := z 13
  have z14 := z 14
  have z15 := z 15
  have z16 := z 16
  have z17 := z 17
  simp [icells3] at z0 z1 z2 z3 z4 z5 z6 z7 z8 z9 z10 z11 z12 z13 z14 z15 z16 z17
  have hB0 := fresh_below hb1
  have hz : w.heap.size < w1.heap.size := by have := hb1.size; simp at this; omega
  have hz1 : w.heap.size < w1.heap.size + 1 := by omega
  have hz2 : w.heap.size < w1.heap.size + 1 + 1 := by omega
  have HB0 := Lib.hid hB0
  clear z hb1 hI hB0
  go_upto_region 3 with fail
  go_cut [3, 4, 5] (fun p q r wx => Laid3 N a b c w p q r wx)
  case first =>
    go_region
    all_goals
      go_wp2_with fail
      go_meet
      refine ⟨_, _, _, ⟨rfl, rfl, rfl⟩, ?_, ?_, ?_, below_dn 1 (((HB0.out.alloc HB0.out.size _).alloc (by have := HB0.out.size; simp; omega) _).alloc (by have := HB0.out.size; simp; omega) _)⟩
      all_goals first | exact Box.drew (Box.new' (by simp) _ _) | exact Box.drew ((Box.new' (by simp) _ _).alloc _) | exact Box.drew (((Box.new' (by simp) _ _).alloc _).alloc _)
  case rest =>
    clear z0 z1 z2 z3 z4 z5 z6 z7 z8 z9 z10 z11 z12 z13 z14 z15 z16 z17 hz hz1 hz2 HB0
    obtain ⟨A, B, C, ⟨rfl, rfl, rfl⟩, Ba, Bb, Bc, B1⟩ := hcut
    obtain ⟨v1, rfl⟩ : ∃ v : World, v = wc := ⟨_, rfl⟩
    have Ga := Ba.g6
    have Gb := Bb.g6
    have Gc := Bc.g6
    clear Ba Bb Bc
    have qa := Ga.lt
    have fa0 := Ga.cell 0
    have fa1 := Ga.cell 1
    have fa2 := Ga.cell 2
    have fa3 := Ga.cell 3
    have fa4 := Ga.cell 4
    have fa5 := Ga.cell 5
    simp at fa0 fa1 fa2 fa3 fa4 fa5
    have qb := Gb.lt
    have fb0 := Gb.cell 0
    have fb1 := Gb.cell 1
    have fb2 := Gb.cell 2
    have fb3 := Gb.cell 3
    have fb4 := Gb.cell 4
    have fb5 := Gb.cell 5
    simp at fb0 fb1 fb2 fb3 fb4 fb5
    go_wp2_with fail
    refine (CAB.out _).mono ?_
    rintro e v2 ⟨rfl, hb2⟩
    clear qa qb fa0 fa1 fa2 fa3 fa4 fa5 fb0 fb1 fb2 fb3 fb4 fb5
    replace Ga := Ga.below hb2
    replace Gb := Gb.below hb2
    replace Gc := Gc.below hb2
    have B2 := B1.trans (Joins.below_le hb2 B1.size)
    clear B1 hb2
    have qc := Gc.lt
    have fc0 := Gc.cell 0
    have fc1 := Gc.cell 1
    have fc2 := Gc.cell 2
    have fc3 := Gc.cell 3
    have fc4 := Gc.cell 4
    have fc5 := Gc.cell 5
    simp at fc0 fc1 fc2 fc3 fc4 fc5
    go_wp2_with fail
    refine (CLE.out _).mono ?_
    rintro e v3 ⟨rfl, hb3⟩
    clear qc fc0 fc1 fc2 fc3 fc4 fc5
    replace Ga := (Ga.alloc _).below hb3
    replace Gb := (Gb.alloc _).below hb3
    replace Gc := (Gc.alloc _).below hb3
    have GAB : G6 v3 v2.heap.size #[.int .i64 (N : Int), .int .i64 (AB 0 : Int), .int .i64 (AB 1 : Int), .int .i64 (AB 2 : Int), .int .i64 (AB 3 : Int), .int .i64 (AB 4 : Int)] := (G6.new v2 _ 24).below hb3
    have B3 := B2.trans (Joins.below_le (fresh_below hb3) B2.size)
    clear B2 hb3
    have qb := Gb.lt
    have fb0 := Gb.cell 0
    have fb1 := Gb.cell 1
    have fb2 := Gb.cell 2
    have fb3 := Gb.cell 3
    have fb4 := Gb.cell 4
    have fb5 := Gb.cell 5
    simp at fb0 fb1 fb2 fb3 fb4 fb5
    have qc := Gc.lt
    have fc0 := Gc.cell 0
    have fc1 := Gc.cell 1
    have fc2 := Gc.cell 2
    have fc3 := Gc.cell 3
    have fc4 := Gc.cell 4
    have fc5 := Gc.cell 5
    simp at fc0 fc1 fc2 fc3 fc4 fc5
    go_wp2_with fail
    refine (CBC.out _).mono ?_
    rintro e v4 ⟨rfl, hb4⟩
    clear qb qc fb0 fb1 fb2 fb3 fb4 fb5 fc0 fc1 fc2 fc3 fc4 fc5
    replace GAB := (GAB.alloc _).below hb4
    replace Ga := (Ga.alloc _).below hb4
    replace Gb := (Gb.alloc _).below hb4
    replace Gc := (Gc.alloc _).below hb4
    have GLE : G6 v4 v3.heap.size #[.int .i64 (N : Int), .int .i64 (LE 0 : Int), .int .i64 (LE 1 : Int), .int .i64 (LE 2 : Int), .int .i64 (LE 3 : Int), .int .i64 (LE 4 : Int)] := (G6.new v3 _ 24).below hb4
    have B4 := B3.trans (Joins.below_le (fresh_below hb4) B3.size)
    clear B3 hb4
    have qa := Ga.lt
    have fa0 := Ga.cell 0
    have fa1 := Ga.cell 1
    have fa2 := Ga.cell 2
    have fa3 := Ga.cell 3
    have fa4 := Ga.cell 4
    have fa5 := Ga.cell 5
    simp at fa0 fa1 fa2 fa3 fa4 fa5
    go_wp2_with fail
    refine (CRI.out _).mono ?_
    rintro e v5 ⟨rfl, hb5⟩
    clear qa fa0 fa1 fa2 fa3 fa4 fa5
    replace GAB := (GAB.alloc _).below hb5
    replace GLE := (GLE.alloc _).below hb5
    replace Ga := (Ga.alloc _).below hb5
    replace Gb := (Gb.alloc _).below hb5
    replace Gc := (Gc.alloc _).below hb5
    have GBC : G6 v5 v4.heap.size #[.int .i64 (N : Int), .int .i64 (BC 0 : Int), .int .i64 (BC 1 : Int), .int .i64 (BC 2 : Int), .int .i64 (BC 3 : Int), .int .i64 (BC 4 : Int)] := (G6.new v4 _ 24).below hb5
    have B5 := B4.trans (Joins.below_le (fresh_below hb5) B4.size)
    clear B4 hb5
    clear GBC
    have qLE := GLE.lt
    have fLE0 := GLE.cell 0
    have fLE1 := GLE.cell 1
    have fLE2 := GLE.cell 2
    have fLE3 := GLE.cell 3
    have fLE4 := GLE.cell 4
    have fLE5 := GLE.cell 5
    simp at fLE0 fLE1 fLE2 fLE3 fLE4 fLE5
    have qb := Gb.lt
    have fb0 := Gb.cell 0
    have fb1 := Gb.cell 1
    have fb2 := Gb.cell 2
    have fb3 := Gb.cell 3
    have fb4 := Gb.cell 4
    have fb5 := Gb.cell 5
    simp at fb0 fb1 fb2 fb3 fb4 fb5
    have qc := Gc.lt
    have fc0 := Gc.cell 0
    have fc1 := Gc.cell 1
    have fc2 := Gc.cell 2
    have fc3 := Gc.cell 3
    have fc4 := Gc.cell 4
    have fc5 := Gc.cell 5
    simp at fc0 fc1 fc2 fc3 fc4 fc5
    go_wp2_with fail
    refine (CU.out _).mono ?_
    rintro e v6 ⟨rfl, hb6⟩
    clear qLE qb qc fLE0 fLE1 fLE2 fLE3 fLE4 fLE5 fb0 fb1 fb2 fb3 fb4 fb5 fc0 fc1 fc2 fc3 fc4 fc5
    replace GAB := (GAB.alloc _).below hb6
    replace GLE := (GLE.alloc _).below hb6
    replace Ga := (Ga.alloc _).below hb6
    replace Gb := (Gb.alloc _).below hb6
    replace Gc := (Gc.alloc _).below hb6
    have GRI : G6 v6 v5.heap.size #[.int .i64 (N : Int), .int .i64 (RI 0 : Int), .int .i64 (RI 1 : Int), .int .i64 (RI 2 : Int), .int .i64 (RI 3 : Int), .int .i64 (RI 4 : Int)] := (G6.new v5 _ 24).below hb6
    have B6 := B5.trans (Joins.below_le (fresh_below hb6) B5.size)
    clear B5 hb6
    clear GLE
    clear GRI
    have qa := Ga.lt
    have fa0 := Ga.cell 0
    have fa1 := Ga.cell 1
    have fa2 := Ga.cell 2
    have fa3 := Ga.cell 3
    have fa4 := Ga.cell 4
    have fa5 := Ga.cell 5
    simp at fa0 fa1 fa2 fa3 fa4 fa5
    go_wp2_with fail
    refine (CX.out _).mono ?_
    rintro e v7 ⟨rfl, hb7⟩
    clear qa fa0 fa1 fa2 fa3 fa4 fa5
    replace GAB := (GAB.alloc _).below hb7
    replace Ga := (Ga.alloc _).below hb7
    replace Gb := (Gb.alloc _).below hb7
    replace Gc := (Gc.alloc _).below hb7
    have GU : G6 v7 v6.heap.size #[.int .i64 (N : Int), .int .i64 (U 0 : Int), .int .i64 (U 1 : Int), .int .i64 (U 2 : Int), .int .i64 (U 3 : Int), .int .i64 (U 4 : Int)] := (G6.new v6 _ 24).below hb7
    have B7 := B6.trans (Joins.below_le (fresh_below hb7) B6.size)
    clear B6 hb7
    have qa := Ga.lt
    have fa0 := Ga.cell 0
    have fa1 := Ga.cell 1
    have fa2 := Ga.cell 2
    have fa3 := Ga.cell 3
    have fa4 := Ga.cell 4
    have fa5 := Ga.cell 5
    simp at fa0 fa1 fa2 fa3 fa4 fa5
    have qc := Gc.lt
    have fc0 := Gc.cell 0
    have fc1 := Gc.cell 1
    have fc2 := Gc.cell 2
    have fc3 := Gc.cell 3
    have fc4 := Gc.cell 4
    have fc5 := Gc.cell 5
    simp at fc0 fc1 fc2 fc3 fc4 fc5
    go_wp2_with fail
    refine (CAC.out _).mono ?_
    rintro e v8 ⟨rfl, hb8⟩
    clear qa qc fa0 fa1 fa2 fa3 fa4 fa5 fc0 fc1 fc2 fc3 fc4 fc5
    replace GAB := (GAB.alloc _).below hb8
    replace GU := (GU.alloc _).below hb8
    replace Ga := (Ga.alloc _).below hb8
    replace Gb := (Gb.alloc _).below hb8
    replace Gc := (Gc.alloc _).below hb8
    have GX : G6 v8 v7.heap.size #[.int .i64 (N : Int), .int .i64 (X 0 : Int), .int .i64 (X 1 : Int), .int .i64 (X 2 : Int), .int .i64 (X 3 : Int), .int .i64 (X 4 : Int)] := (G6.new v7 _ 24).below hb8
    have B8 := B7.trans (Joins.below_le (fresh_below hb8) B7.size)
    clear B7 hb8
    have qAB := GAB.lt
    have fAB0 := GAB.cell 0
    have fAB1 := GAB.cell 1
    have fAB2 := GAB.cell 2
    have fAB3 := GAB.cell 3
    have fAB4 := GAB.cell 4
    have fAB5 := GAB.cell 5
    simp at fAB0 fAB1 fAB2 fAB3 fAB4 fAB5
    go_wp2_with fail
    refine (CY.out _).mono ?_
    rintro e v9 ⟨rfl, hb9⟩
    clear qAB fAB0 fAB1 fAB2 fAB3 fAB4 fAB5
    replace GAB := (GAB.alloc _).below hb9
    replace GU := (GU.alloc _).below hb9
    replace GX := (GX.alloc _).below hb9
    replace Ga := (Ga.alloc _).below hb9
    replace Gb := (Gb.alloc _).below hb9
    replace Gc := (Gc.alloc _).below hb9
    have GAC : G6 v9 v8.heap.size #[.int .i64 (N : Int), .int .i64 (AC 0 : Int), .int .i64 (AC 1 : Int), .int .i64 (AC 2 : Int), .int .i64 (AC 3 : Int), .int .i64 (AC 4 : Int)] := (G6.new v8 _ 24).below hb9
    have B9 := B8.trans (Joins.below_le (fresh_below hb9) B8.size)
    clear B8 hb9
    clear GAB
    clear GAC
    have qU := GU.lt
    have fU0 := GU.cell 0
    have fU1 := GU.cell 1
    have fU2 := GU.cell 2
    have fU3 := GU.cell 3
    have fU4 := GU.cell 4
    have fU5 := GU.cell 5
    simp at fU0 fU1 fU2 fU3 fU4 fU5
    have qa := Ga.lt
    have fa0 := Ga.cell 0
    have fa1 := Ga.cell 1
    have fa2 := Ga.cell 2
    have fa3 := Ga.cell 3
    have fa4 := Ga.cell 4
    have fa5 := Ga.cell 5
    simp at fa0 fa1 fa2 fa3 fa4 fa5
    go_wp2_with fail
    refine (CZ.out _).mono ?_
    rintro e v10 ⟨rfl, hb10⟩
    clear qU qa fU0 fU1 fU2 fU3 fU4 fU5 fa0 fa1 fa2 fa3 fa4 fa5
    replace GU := (GU.alloc _).below hb10
    replace GX := (GX.alloc _).below hb10
    replace Ga := (Ga.alloc _).below hb10
    replace Gb := (Gb.alloc _).below hb10
    replace Gc := (Gc.alloc _).below hb10
    have GY : G6 v10 v9.heap.size #[.int .i64 (N : Int), .int .i64 (Y 0 : Int), .int .i64 (Y 1 : Int), .int .i64 (Y 2 : Int), .int .i64 (Y 3 : Int), .int .i64 (Y 4 : Int)] := (G6.new v9 _ 24).below hb10
    have B10 := B9.trans (Joins.below_le (fresh_below hb10) B9.size)
    clear B9 hb10
    clear GU
    have qb := Gb.lt
    have fb0 := Gb.cell 0
    have fb1 := Gb.cell 1
    have fb2 := Gb.cell 2
    have fb3 := Gb.cell 3
    have fb4 := Gb.cell 4
    have fb5 := Gb.cell 5
    simp at fb0 fb1 fb2 fb3 fb4 fb5
    have qa := Ga.lt
    have fa0 := Ga.cell 0
    have fa1 := Ga.cell 1
    have fa2 := Ga.cell 2
    have fa3 := Ga.cell 3
    have fa4 := Ga.cell 4
    have fa5 := Ga.cell 5
    simp at fa0 fa1 fa2 fa3 fa4 fa5
    go_wp2_with fail
    refine (CBA.out _).mono ?_
    rintro e v11 ⟨rfl, hb11⟩
    clear qb qa fb0 fb1 fb2 fb3 fb4 fb5 fa0 fa1 fa2 fa3 fa4 fa5
    replace GX := (GX.alloc _).below hb11
    replace GY := (GY.alloc _).below hb11
    replace Ga := (Ga.alloc _).below hb11
    replace Gb := (Gb.alloc _).below hb11
    replace Gc := (Gc.alloc _).below hb11
    have GZ : G6 v11 v10.heap.size #[.int .i64 (N : Int), .int .i64 (Z 0 : Int), .int .i64 (Z 1 : Int), .int .i64 (Z 2 : Int), .int .i64 (Z 3 : Int), .int .i64 (Z 4 : Int)] := (G6.new v10 _ 24).below hb11
    have B11 := B10.trans (Joins.below_le (fresh_below hb11) B10.size)
    clear B10 hb11
    have qc := Gc.lt
    have fc0 := Gc.cell 0
    have fc1 := Gc.cell 1
    have fc2 := Gc.cell 2
    have fc3 := Gc.cell 3
    have fc4 := Gc.cell 4
    have fc5 := Gc.cell 5
    simp at fc0 fc1 fc2 fc3 fc4 fc5
    have qa := Ga.lt
    have fa0 := Ga.cell 0
    have fa1 := Ga.cell 1
    have fa2 := Ga.cell 2
    have fa3 := Ga.cell 3
    have fa4 := Ga.cell 4
    have fa5 := Ga.cell 5
    simp at fa0 fa1 fa2 fa3 fa4 fa5
    go_wp2_with fail
    refine (CCA.out _).mono ?_
    rintro e v12 ⟨rfl, hb12⟩
    clear qc qa fc0 fc1 fc2 fc3 fc4 fc5 fa0 fa1 fa2 fa3 fa4 fa5
    replace GX := (GX.alloc _).below hb12
    replace GY := (GY.alloc _).below hb12
    replace GZ := (GZ.alloc _).below hb12
    replace Ga := (Ga.alloc _).below hb12
    replace Gb := (Gb.alloc _).below hb12
    replace Gc := (Gc.alloc _).below hb12
    have GBA : G6 v12 v11.heap.size #[.int .i64 (N : Int), .int .i64 (BA 0 : Int), .int .i64 (BA 1 : Int), .int .i64 (BA 2 : Int), .int .i64 (BA 3 : Int), .int .i64 (BA 4 : Int)] := (G6.new v11 _ 24).below hb12
    have B12 := B11.trans (Joins.below_le (fresh_below hb12) B11.size)
    clear B11 hb12
    clear Gb
    clear Gc
    have qBA := GBA.lt
    have fBA0 := GBA.cell 0
    have fBA1 := GBA.cell 1
    have fBA2 := GBA.cell 2
    have fBA3 := GBA.cell 3
    have fBA4 := GBA.cell 4
    have fBA5 := GBA.cell 5
    simp at fBA0 fBA1 fBA2 fBA3 fBA4 fBA5
    go_wp2_with fail
    refine (CV.out _).mono ?_
    rintro e v13 ⟨rfl, hb13⟩
    clear qBA fBA0 fBA1 fBA2 fBA3 fBA4 fBA5
    replace GBA := (GBA.alloc _).below hb13
    replace GX := (GX.alloc _).below hb13
    replace GY := (GY.alloc _).below hb13
    replace GZ := (GZ.alloc _).below hb13
    replace Ga := (Ga.alloc _).below hb13
    have GCA : G6 v13 v12.heap.size #[.int .i64 (N : Int), .int .i64 (CA 0 : Int), .int .i64 (CA 1 : Int), .int .i64 (CA 2 : Int), .int .i64 (CA 3 : Int), .int .i64 (CA 4 : Int)] := (G6.new v12 _ 24).below hb13
    have B13 := B12.trans (Joins.below_le (fresh_below hb13) B12.size)
    clear B12 hb13
    clear GBA
    clear GCA
    have qa := Ga.lt
    have fa0 := Ga.cell 0
    have fa1 := Ga.cell 1
    have fa2 := Ga.cell 2
    have fa3 := Ga.cell 3
    have fa4 := Ga.cell 4
    have fa5 := Ga.cell 5
    simp at fa0 fa1 fa2 fa3 fa4 fa5
    go_wp2_with fail
    refine (CSI.out _).mono ?_
    rintro e v14 ⟨rfl, hb14⟩
    clear qa fa0 fa1 fa2 fa3 fa4 fa5
    replace GX := (GX.alloc _).below hb14
    replace GY := (GY.alloc _).below hb14
    replace GZ := (GZ.alloc _).below hb14
    replace Ga := (Ga.alloc _).below hb14
    have GV : G6 v14 v13.heap.size #[.int .i64 (N : Int), .int .i64 (V 0 : Int), .int .i64 (V 1 : Int), .int .i64 (V 2 : Int), .int .i64 (V 3 : Int), .int .i64 (V 4 : Int)] := (G6.new v13 _ 24).below hb14
    have B14 := B13.trans (Joins.below_le (fresh_below hb14) B13.size)
    clear B13 hb14
    have qa := Ga.lt
    have fa0 := Ga.cell 0
    have fa1 := Ga.cell 1
    have fa2 := Ga.cell 2
    have fa3 := Ga.cell 3
    have fa4 := Ga.cell 4
    have fa5 := Ga.cell 5
    simp at fa0 fa1 fa2 fa3 fa4 fa5
    go_wp2_with fail
    refine (CAS.out _).mono ?_
    rintro e v15 ⟨rfl, hb15⟩
    clear qa fa0 fa1 fa2 fa3 fa4 fa5
    replace GV := (GV.alloc _).below hb15
    replace GX := (GX.alloc _).below hb15
    replace GY := (GY.alloc _).below hb15
    replace GZ := (GZ.alloc _).below hb15
    replace Ga := (Ga.alloc _).below hb15
    have GSI : G6 v15 v14.heap.size #[.int .i64 (N : Int), .int .i64 (SI 0 : Int), .int .i64 (SI 1 : Int), .int .i64 (SI 2 : Int), .int .i64 (SI 3 : Int), .int .i64 (SI 4 : Int)] := (G6.new v14 _ 24).below hb15
    have B15 := B14.trans (Joins.below_le (fresh_below hb15) B14.size)
    clear B14 hb15
    have qSI := GSI.lt
    have fSI0 := GSI.cell 0
    have fSI1 := GSI.cell 1
    have fSI2 := GSI.cell 2
    have fSI3 := GSI.cell 3
    have fSI4 := GSI.cell 4
    have fSI5 := GSI.cell 5
    simp at fSI0 fSI1 fSI2 fSI3 fSI4 fSI5
    have qa := Ga.lt
    have fa0 := Ga.cell 0
    have fa1 := Ga.cell 1
    have fa2 := Ga.cell 2
    have fa3 := Ga.cell 3
    have fa4 := Ga.cell 4
    have fa5 := Ga.cell 5
    simp at fa0 fa1 fa2 fa3 fa4 fa5
    go_wp2_with fail
    refine (CSA.out _).mono ?_
    rintro e v16 ⟨rfl, hb16⟩
    clear qSI qa fSI0 fSI1 fSI2 fSI3 fSI4 fSI5 fa0 fa1 fa2 fa3 fa4 fa5
    replace GSI := (GSI.alloc _).below hb16
    replace GV := (GV.alloc _).below hb16
    replace GX := (GX.alloc _).below hb16
    replace GY := (GY.alloc _).below hb16
    replace GZ := (GZ.alloc _).below hb16
    replace Ga := (Ga.alloc _).below hb16
    have GAS : G6 v16 v15.heap.size #[.int .i64 (N : Int), .int .i64 (AS 0 : Int), .int .i64 (AS 1 : Int), .int .i64 (AS 2 : Int), .int .i64 (AS 3 : Int), .int .i64 (AS 4 : Int)] := (G6.new v15 _ 24).below hb16
    have B16 := B15.trans (Joins.below_le (fresh_below hb16) B15.size)
    clear B15 hb16
    clear GSI
    have qX := GX.lt
    have fX0 := GX.cell 0
    have fX1 := GX.cell 1
    have fX2 := GX.cell 2
    have fX3 := GX.cell 3
    have fX4 := GX.cell 4
    have fX5 := GX.cell 5
    simp at fX0 fX1 fX2 fX3 fX4 fX5
    have qY := GY.lt
    have fY0 := GY.cell 0
    have fY1 := GY.cell 1
    have fY2 := GY.cell 2
    have fY3 := GY.cell 3
    have fY4 := GY.cell 4
    have fY5 := GY.cell 5
    simp at fY0 fY1 fY2 fY3 fY4 fY5
    have qZ := GZ.lt
    have fZ0 := GZ.cell 0
    have fZ1 := GZ.cell 1
    have fZ2 := GZ.cell 2
    have fZ3 := GZ.cell 3
    have fZ4 := GZ.cell 4
    have fZ5 := GZ.cell 5
    simp at fZ0 fZ1 fZ2 fZ3 fZ4 fZ5
    have qV := GV.lt
    have fV0 := GV.cell 0
    have fV1 := GV.cell 1
    have fV2 := GV.cell 2
    have fV3 := GV.cell 3
    have fV4 := GV.cell 4
    have fV5 := GV.cell 5
    simp at fV0 fV1 fV2 fV3 fV4 fV5
    have qAS := GAS.lt
    have fAS0 := GAS.cell 0
    have fAS1 := GAS.cell 1
    have fAS2 := GAS.cell 2
    have fAS3 := GAS.cell 3
    have fAS4 := GAS.cell 4
    have fAS5 := GAS.cell 5
    simp at fAS0 fAS1 fAS2 fAS3 fAS4 fAS5
    have qa := Ga.lt
    have fa0 := Ga.cell 0
    have fa1 := Ga.cell 1
    have fa2 := Ga.cell 2
    have fa3 := Ga.cell 3
    have fa4 := Ga.cell 4
    have fa5 := Ga.cell 5
    simp at fa0 fa1 fa2 fa3 fa4 fa5
    go_wp2_with fail
    refine (HA.out _).mono ?_
    rintro e v17 ⟨rfl, hb17⟩
    clear qX qY qZ qV qAS qa fX0 fX1 fX2 fX3 fX4 fX5 fY0 fY1 fY2 fY3 fY4 fY5 fZ0 fZ1 fZ2 fZ3 fZ4 fZ5 fV0 fV1 fV2 fV3 fV4 fV5 fAS0 fAS1 fAS2 fAS3 fAS4 fAS5 fa0 fa1 fa2 fa3 fa4 fa5
    replace GAS := (GAS.alloc _).below hb17
    replace GV := (GV.alloc _).below hb17
    replace GX := (GX.alloc _).below hb17
    replace GY := (GY.alloc _).below hb17
    replace GZ := (GZ.alloc _).below hb17
    replace Ga := (Ga.alloc _).below hb17
    have GSA : G6 v17 v16.heap.size #[.int .i64 (N : Int), .int .i64 (SA 0 : Int), .int .i64 (SA 1 : Int), .int .i64 (SA 2 : Int), .int .i64 (SA 3 : Int), .int .i64 (SA 4 : Int)] := (G6.new v16 _ 24).below hb17
    have B17 := B16.trans (Joins.below_le (fresh_below hb17) B16.size)
    clear B16 hb17
    go_wp2_with fail
    go_ret
    exact ⟨rfl, B17⟩
end Go.Proofs.YtmhfhdfiepniaaaDoor
