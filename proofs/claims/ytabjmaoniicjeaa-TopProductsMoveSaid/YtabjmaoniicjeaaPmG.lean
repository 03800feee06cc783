/- The walk of roundtabletop.TopProductsMove where the graphs are well-formed and the list is a permutation of their processes: it returns true, and changes nothing that was there. -/
import Derived.Test.YtabjmaoniicjeaaGrB
import Derived.Test.YtabjmaoniicjeaaGrA
import Derived.Test.YtabjmaoniicjeaaGrC
import Derived.Test.YtabjmaoniicjeaaGrD
import Derived.Test.YtabjmaoniicjeaaGrE
import Derived.Test.YtabjmaoniicjeaaGrF
import Derived.Test.YtabjmaoniicjeaaGrG
import Derived.Test.YtabjmaoniicjeaaGrJ
import Derived.Test.YtabjmaoniicjeaaGrL
import Derived.Test.YtabjmaoniicjeaaGrP
import Derived.Test.YtabjmaoniicjeaaPmE
import Derived.Test.YtabjmaoniicjeaaPmF
import Derived.Test.YtabjmaoniicjeaaGrN
import Derived.Deep.RegionWith
import Derived.Test.YtabjmaoniicjeaaGrM
import Derived.WalkKit
import Derived.WalkSpells
import Derived.WalkLawsBesides
import Derived.Handy
import Derived.Deep.QuietTactic
import Derived.BigQuiet
import Derived.Outline
import Derived.Laws.BitsAllLaws
import Derived.IntWalk
import Derived.Lib.SmallJoins
import Derived.Lib.Hide
namespace Go.Proofs.Ytabjmaoniicjeaa
open Go.RowKit







theorem graphs2_yes (N : Nat) (a b : Nat → Nat) (ha : WF N a) (hb : WF N b) (g : Nat) (w : World) (hg : g < w.heap.size)
    (hG : ∀ i, w.cell? ⟨g, i, none⟩ = (#[.int .i64 (N : Int), .int .i64 (a 0 : Int), .int .i64 (a 1 : Int), .int .i64 (a 2 : Int), .int .i64 (a 3 : Int), .int .i64 (a 4 : Int), .int .i64 (N : Int), .int .i64 (b 0 : Int), .int .i64 (b 1 : Int), .int .i64 (b 2 : Int), .int .i64 (b 3 : Int), .int .i64 (b 4 : Int)] : Array Value)[i]?) :
    Calls Try.prog 6 #[.slice (some ⟨g, 0, none⟩) 2 2] w fun e w' => e = .returned (.bool true) ∧ Below w.heap.size w w' :=
  (graphs2_any N N _ _ (rng_of ha) (rng_of hb) g w hg hG).mono fun e w' ⟨r, he, hr, hB⟩ => ⟨by rw [he, hr.2 ⟨wfi_of ha, wfi_of hb, rfl⟩], hB⟩

theorem permI_of {n : Nat} {f : Nat → Nat} (h : Perm n f) : PermI n (fun i => (f i : Int)) :=
  ⟨fun i hi => by have := h.lt i hi; omega, fun i hi l hl e => by have e2 : (f l : Int) = (f i : Int) := e; have := h.inj l i (by omega) hi (by omega); omega⟩

theorem rpc_yes (n cap b off : Nat) (f : Nat → Nat) (h1 : 1 ≤ n) (h5 : n ≤ 5) (hf : Perm n f) (w : World) (hA : Arr w b off n f) :
    Calls Try.prog 9 #[.slice (some ⟨b, off, none⟩) n cap] w fun e w' => e = .returned (.int .i64 0) ∧ Below w.heap.size w w' :=
  (rpc_any n cap b off _ h1 h5 w hA.cell).mono fun e w' ⟨r, he, hr, d, hd⟩ => ⟨by rw [he, hr.2 (permI_of hf)], by rw [hd]; exact below_dn d (Below.refl _ _)⟩

set_option maxRecDepth 100000 in
set_option maxHeartbeats 16000000 in
theorem walk2_yes (N cap b0 off : Nat) (a b f : Nat → Nat) (ha : WF N a) (hb : WF N b) (hf : Perm N f) (hcap : N ≤ cap) (w : World) (hA : Arr w b0 off N f) :
    Calls Try.prog 4 #[gv N a, gv N b, .slice (some ⟨b0, off, none⟩) N cap] w fun e w' => e = .returned (.bool true) ∧ Below w.heap.size w w' := by
  have h1 : 1 ≤ N := ha.1.1
  have h5 : N ≤ 5 := ha.1.2
  have heql := run_eql_g
  have hneq := run_neq_g
  obtain ⟨AB, hAB⟩ : ∃ g, prod N a b = g := ⟨_, rfl⟩
  have wAB : WF N AB := hAB ▸ wf_prod ha hb
  have cAB := fun w => compose_ok N a b ha hb w
  rw [hAB] at cAB
  have CAB := Lib.hid cAB
  clear cAB
  obtain ⟨BA, hBA⟩ : ∃ g, prod N b a = g := ⟨_, rfl⟩
  have wBA : WF N BA := hBA ▸ wf_prod hb ha
  have cBA := fun w => compose_ok N b a hb ha w
  rw [hBA] at cBA
  have CBA := Lib.hid cBA
  clear cBA
  obtain ⟨LE, hLE⟩ : ∃ g, prod N AB a = g := ⟨_, rfl⟩
  have wLE : WF N LE := hLE ▸ wf_prod wAB ha
  have cLE := fun w => compose_ok N AB a wAB ha w
  rw [hLE] at cLE
  have CLE := Lib.hid cLE
  clear cLE
  obtain ⟨RI, hRI⟩ : ∃ g, prod N a BA = g := ⟨_, rfl⟩
  have wRI : WF N RI := hRI ▸ wf_prod ha wBA
  have cRI := fun w => compose_ok N a BA ha wBA w
  rw [hRI] at cRI
  have CRI := Lib.hid cRI
  clear cRI
  obtain ⟨SI, hSI⟩ : ∃ g, sil N = g := ⟨_, rfl⟩
  have wSI : WF N SI := hSI ▸ wf_sil ⟨h1, h5⟩
  have cSI := fun w => silent_ok N ⟨h1, h5⟩ w
  rw [hSI] at cSI
  have CSI := Lib.hid cSI
  clear cSI
  obtain ⟨SA, hSA⟩ : ∃ g, prod N SI a = g := ⟨_, rfl⟩
  have wSA : WF N SA := hSA ▸ wf_prod wSI ha
  have cSA := fun w => compose_ok N SI a wSI ha w
  rw [hSA] at cSA
  have CSA := Lib.hid cSA
  clear cSA
  obtain ⟨SU, hSU⟩ : ∃ g, (fun p => a p ||| b p) = g := ⟨_, rfl⟩
  have wSU : WF N SU := hSU ▸ wf_or ha hb
  have cSU := fun w => union_ok N a b ha hb w
  rw [hSU] at cSU
  have CSU := Lib.hid cSU
  clear cSU
  obtain ⟨WH, hWH⟩ : ∃ g, prod N SU b = g := ⟨_, rfl⟩
  have wWH : WF N WH := hWH ▸ wf_prod wSU hb
  have cWH := fun w => compose_ok N SU b wSU hb w
  rw [hWH] at cWH
  have CWH := Lib.hid cWH
  clear cWH
  obtain ⟨BB, hBB⟩ : ∃ g, prod N b b = g := ⟨_, rfl⟩
  have wBB : WF N BB := hBB ▸ wf_prod hb hb
  have cBB := fun w => compose_ok N b b hb hb w
  rw [hBB] at cBB
  have CBB := Lib.hid cBB
  clear cBB
  obtain ⟨PA, hPA⟩ : ∃ g, (fun p => AB p ||| BB p) = g := ⟨_, rfl⟩
  have wPA : WF N PA := hPA ▸ wf_or wAB wBB
  have cPA := fun w => union_ok N AB BB wAB wBB w
  rw [hPA] at cPA
  have CPA := Lib.hid cPA
  clear cPA
  obtain ⟨X, hX⟩ : ∃ g, pgr N f a N = g := ⟨_, rfl⟩
  have wX : WF N X := hX ▸ wf_pgr hf ha
  have cX := fun bb oo w hA => permute_ok N cap bb oo f a ha hcap hf w hA
  rw [hX] at cX
  have CX := Lib.hid cX
  clear cX
  obtain ⟨Y, hY⟩ : ∃ g, pgr N f b N = g := ⟨_, rfl⟩
  have wY : WF N Y := hY ▸ wf_pgr hf hb
  have cY := fun bb oo w hA => permute_ok N cap bb oo f b hb hcap hf w hA
  rw [hY] at cY
  have CY := Lib.hid cY
  clear cY
  obtain ⟨XY, hXY⟩ : ∃ g, prod N X Y = g := ⟨_, rfl⟩
  have wXY : WF N XY := hXY ▸ wf_prod wX wY
  have cXY := fun w => compose_ok N X Y wX wY w
  rw [hXY] at cXY
  have CXY := Lib.hid cXY
  clear cXY
  obtain ⟨MO, hMO⟩ : ∃ g, pgr N f AB N = g := ⟨_, rfl⟩
  have wMO : WF N MO := hMO ▸ wf_pgr hf wAB
  have cMO := fun bb oo w hA => permute_ok N cap bb oo f AB wAB hcap hf w hA
  rw [hMO] at cMO
  have CMO := Lib.hid cMO
  clear cMO
  have hinv := perm_inv hf h5
  obtain ⟨AG, hAG⟩ : ∃ g, pgr N (invr f N) X N = g := ⟨_, rfl⟩
  have wAG : WF N AG := hAG ▸ wf_pgr hinv wX
  have cAG := fun bb oo w hA => permute_ok N N bb oo (invr f N) X wX (Nat.le_refl _) hinv w hA
  rw [hAG] at cAG
  have CAG := Lib.hid cAG
  clear cAG
  obtain ⟨K, hK⟩ : ∃ g, ker N a N = g := ⟨_, rfl⟩
  have lK : K < 2 ^ N := hK ▸ ker_lt N a N
  have cK := fun w => Kernel_ok N a ha w
  rw [hK] at cK
  have CK := Lib.hid cK
  clear cK
  obtain ⟨OT, hOT⟩ : ∃ g, ker N X N = g := ⟨_, rfl⟩
  have cOT := fun w => Kernel_ok N X wX w
  rw [hOT] at cOT
  have COT := Lib.hid cOT
  clear cOT
  have eI : img f K N = OT := by rw [← hOT, ← hX, ← hK]; exact ker_img hf ha
  have cI := fun w hA => set_ok N cap b0 off K f h1 h5 hcap hf lK w hA
  rw [eI] at cI
  have CI := Lib.hid cI
  clear cI eI
  have e1 : ∀ p, p < 5 → LE p = RI p := fun p hp => by rw [← hLE, ← hRI, ← hAB, ← hBA]; exact prod_assoc ha hb ha hp
  have e2 : ∀ p, p < 5 → SA p = a p := fun p hp => by rw [← hSA, ← hSI]; exact prod_sil ha hp
  have e3 : ∀ p, p < 5 → WH p = PA p := fun p hp => by rw [← hWH, ← hPA, ← hSU, ← hAB, ← hBB]; exact prod_or ha hb hb hp
  have e4 : ∀ p, p < 5 → XY p = MO p := fun p hp => by rw [← hXY, ← hMO, ← hX, ← hY, ← hAB]; exact pgr_prod hf ha hb hp
  have e5 : ∀ p, p < 5 → AG p = a p := fun p hp => by rw [← hAG, ← hX]; exact pgr_back hf ha hp
  have t1 : geq N N (LE 0) (LE 1) (LE 2) (LE 3) (LE 4) (RI 0) (RI 1) (RI 2) (RI 3) (RI 4) = true := geq_self _ _ _ _ _ _ _ _ _ _ _ (e1 0 (by omega)) (e1 1 (by omega)) (e1 2 (by omega)) (e1 3 (by omega)) (e1 4 (by omega))
  have t2 : geq N N (SA 0) (SA 1) (SA 2) (SA 3) (SA 4) (a 0) (a 1) (a 2) (a 3) (a 4) = true := geq_self _ _ _ _ _ _ _ _ _ _ _ (e2 0 (by omega)) (e2 1 (by omega)) (e2 2 (by omega)) (e2 3 (by omega)) (e2 4 (by omega))
  have t3 : geq N N (WH 0) (WH 1) (WH 2) (WH 3) (WH 4) (PA 0) (PA 1) (PA 2) (PA 3) (PA 4) = true := geq_self _ _ _ _ _ _ _ _ _ _ _ (e3 0 (by omega)) (e3 1 (by omega)) (e3 2 (by omega)) (e3 3 (by omega)) (e3 4 (by omega))
  have t4 : geq N N (XY 0) (XY 1) (XY 2) (XY 3) (XY 4) (MO 0) (MO 1) (MO 2) (MO 3) (MO 4) = true := geq_self _ _ _ _ _ _ _ _ _ _ _ (e4 0 (by omega)) (e4 1 (by omega)) (e4 2 (by omega)) (e4 3 (by omega)) (e4 4 (by omega))
  have t5 : geq N N (AG 0) (AG 1) (AG 2) (AG 3) (AG 4) (a 0) (a 1) (a 2) (a 3) (a 4) = true := geq_self _ _ _ _ _ _ _ _ _ _ _ (e5 0 (by omega)) (e5 1 (by omega)) (e5 2 (by omega)) (e5 3 (by omega)) (e5 4 (by omega))
  have Ha := Lib.hid ha
  have Hb := Lib.hid hb
  have Hf := Lib.hid hf
  have HA := Lib.hid hA
  clear ha hb hf hA hinv e1 e2 e3 e4 e5 hK hOT lK hAB wAB hBA wBA hLE wLE hRI wRI hSI wSI hSA wSA hSU wSU hWH wWH hBB wBB hPA wPA hX wX hY wY hXY wXY hMO wMO hAG wAG
  go_enter Try.func4, Try.ntmps4
  go_wp2_with fail
  refine (awake_c _).mono ?_
  rintro e w1 ⟨rfl, hb1⟩
  have B0 : Below w.heap.size w ((w.alloc (.cells #[.int .i64 (N : Int), .int .i64 (a 0 : Int), .int .i64 (a 1 : Int), .int .i64 (a 2 : Int), .int .i64 (a 3 : Int), .int .i64 (a 4 : Int)] 24)).alloc (.cells #[.int .i64 (N : Int), .int .i64 (b 0 : Int), .int .i64 (b 1 : Int), .int .i64 (b 2 : Int), .int .i64 (b 3 : Int), .int .i64 (b 4 : Int)] 24)) := ((Below.refl _ _).alloc (Nat.le_refl _) _).alloc (by simp) _
  have Ga : G6 w1 w.heap.size #[.int .i64 (N : Int), .int .i64 (a 0 : Int), .int .i64 (a 1 : Int), .int .i64 (a 2 : Int), .int .i64 (a 3 : Int), .int .i64 (a 4 : Int)] := (((G6.new w _ 24).alloc _).below hb1)
  have Gb : G6 w1 (w.heap.size + 1) #[.int .i64 (N : Int), .int .i64 (b 0 : Int), .int .i64 (b 1 : Int), .int .i64 (b 2 : Int), .int .i64 (b 3 : Int), .int .i64 (b 4 : Int)] := ((G6.at_ (by simp) _ 24).below hb1)
  have B1 := B0.trans (Joins.below_le hb1 (by simp; omega))
  clear B0 hb1
  have qa := Ga.lt
  have fa0 := Ga.cell 0
  have fa1 := Ga.cell 1
  have fa2 := Ga.cell 2
  have fa3 := Ga.cell 3
  have fa4 := Ga.cell 4
  have fa5 := Ga.cell 5
  simp at fa0 fa1 fa2 fa3 fa4 fa5
  have qb := Gb.lt
  have fb0 := Gb.cell 0
  have fb1 := Gb.cell 1
  have fb2 := Gb.cell 2
  have fb3 := Gb.cell 3
  have fb4 := Gb.cell 4
  have fb5 := Gb.cell 5
  simp at fb0 fb1 fb2 fb3 fb4 fb5
  go_wp2_with fail
  refine (graphs2_yes N a b Ha.out Hb.out w1.heap.size _ (by simp) (fun i => World.cell?_alloc_mark w1 _ _ (0, 0) i)).mono ?_
  rintro e w2 ⟨rfl, hb2⟩
  clear qa qb fa0 fa1 fa2 fa3 fa4 fa5 fb0 fb1 fb2 fb3 fb4 fb5
  replace Ga := (Ga.alloc _).below hb2
  replace Gb := (Gb.alloc _).below hb2
  have B2 := B1.trans (Joins.below_le (fresh_below hb2) B1.size)
  clear B1 hb2
  have qa := Ga.lt
  have fa0 := Ga.cell 0
  have fa1 := Ga.cell 1
  have fa2 := Ga.cell 2
  have fa3 := Ga.cell 3
  have fa4 := Ga.cell 4
  have fa5 := Ga.cell 5
  simp at fa0 fa1 fa2 fa3 fa4 fa5
  go_wp2_with fail
  refine (rpc_yes N cap b0 off f h1 h5 Hf.out _ (HA.out.below B2)).mono ?_
  rintro e w3 ⟨rfl, hb3⟩
  clear qa fa0 fa1 fa2 fa3 fa4 fa5
  replace Ga := Ga.below hb3
  replace Gb := Gb.below hb3
  have B3 := B2.trans (Joins.below_le hb3 B2.size)
  clear B2 hb3
  have qa := Ga.lt
  have fa0 := Ga.cell 0
  have fa1 := Ga.cell 1
  have fa2 := Ga.cell 2
  have fa3 := Ga.cell 3
  have fa4 := Ga.cell 4
  have fa5 := Ga.cell 5
  simp at fa0 fa1 fa2 fa3 fa4 fa5
  have qb := Gb.lt
  have fb0 := Gb.cell 0
  have fb1 := Gb.cell 1
  have fb2 := Gb.cell 2
  have fb3 := Gb.cell 3
  have fb4 := Gb.cell 4
  have fb5 := Gb.cell 5
  simp at fb0 fb1 fb2 fb3 fb4 fb5
  go_wp2_with fail
  refine (CAB.out _).mono ?_
  rintro e w4 ⟨rfl, hb4⟩
  clear qa qb fa0 fa1 fa2 fa3 fa4 fa5 fb0 fb1 fb2 fb3 fb4 fb5
  replace Ga := Ga.below hb4
  replace Gb := Gb.below hb4
  have B4 := B3.trans (Joins.below_le hb4 B3.size)
  clear B3 hb4
  have qa := Ga.lt
  have fa0 := Ga.cell 0
  have fa1 := Ga.cell 1
  have fa2 := Ga.cell 2
  have fa3 := Ga.cell 3
  have fa4 := Ga.cell 4
  have fa5 := Ga.cell 5
  simp at fa0 fa1 fa2 fa3 fa4 fa5
  have qb := Gb.lt
  have fb0 := Gb.cell 0
  have fb1 := Gb.cell 1
  have fb2 := Gb.cell 2
  have fb3 := Gb.cell 3
  have fb4 := Gb.cell 4
  have fb5 := Gb.cell 5
  simp at fb0 fb1 fb2 fb3 fb4 fb5
  go_wp2_with fail
  refine (CBA.out _).mono ?_
  rintro e w5 ⟨rfl, hb5⟩
  clear qa qb fa0 fa1 fa2 fa3 fa4 fa5 fb0 fb1 fb2 fb3 fb4 fb5
  replace Ga := (Ga.alloc _).below hb5
  replace Gb := (Gb.alloc _).below hb5
  have GAB : G6 w5 w4.heap.size #[.int .i64 (N : Int), .int .i64 (AB 0 : Int), .int .i64 (AB 1 : Int), .int .i64 (AB 2 : Int), .int .i64 (AB 3 : Int), .int .i64 (AB 4 : Int)] := (G6.new w4 _ 24).below hb5
  have B5 := B4.trans (Joins.below_le (fresh_below hb5) B4.size)
  clear B4 hb5
  have qAB := GAB.lt
  have fAB0 := GAB.cell 0
  have fAB1 := GAB.cell 1
  have fAB2 := GAB.cell 2
  have fAB3 := GAB.cell 3
  have fAB4 := GAB.cell 4
  have fAB5 := GAB.cell 5
  simp at fAB0 fAB1 fAB2 fAB3 fAB4 fAB5
  have qa := Ga.lt
  have fa0 := Ga.cell 0
  have fa1 := Ga.cell 1
  have fa2 := Ga.cell 2
  have fa3 := Ga.cell 3
  have fa4 := Ga.cell 4
  have fa5 := Ga.cell 5
  simp at fa0 fa1 fa2 fa3 fa4 fa5
  go_wp2_with fail
  refine (CLE.out _).mono ?_
  rintro e w6 ⟨rfl, hb6⟩
  clear qAB qa fAB0 fAB1 fAB2 fAB3 fAB4 fAB5 fa0 fa1 fa2 fa3 fa4 fa5
  replace GAB := (GAB.alloc _).below hb6
  replace Ga := (Ga.alloc _).below hb6
  replace Gb := (Gb.alloc _).below hb6
  have GBA : G6 w6 w5.heap.size #[.int .i64 (N : Int), .int .i64 (BA 0 : Int), .int .i64 (BA 1 : Int), .int .i64 (BA 2 : Int), .int .i64 (BA 3 : Int), .int .i64 (BA 4 : Int)] := (G6.new w5 _ 24).below hb6
  have B6 := B5.trans (Joins.below_le (fresh_below hb6) B5.size)
  clear B5 hb6
  have qa := Ga.lt
  have fa0 := Ga.cell 0
  have fa1 := Ga.cell 1
  have fa2 := Ga.cell 2
  have fa3 := Ga.cell 3
  have fa4 := Ga.cell 4
  have fa5 := Ga.cell 5
  simp at fa0 fa1 fa2 fa3 fa4 fa5
  have qBA := GBA.lt
  have fBA0 := GBA.cell 0
  have fBA1 := GBA.cell 1
  have fBA2 := GBA.cell 2
  have fBA3 := GBA.cell 3
  have fBA4 := GBA.cell 4
  have fBA5 := GBA.cell 5
  simp at fBA0 fBA1 fBA2 fBA3 fBA4 fBA5
  go_wp2_with fail
  refine (CRI.out _).mono ?_
  rintro e w7 ⟨rfl, hb7⟩
  clear qa qBA fa0 fa1 fa2 fa3 fa4 fa5 fBA0 fBA1 fBA2 fBA3 fBA4 fBA5
  replace GAB := (GAB.alloc _).below hb7
  replace GBA := (GBA.alloc _).below hb7
  replace Ga := (Ga.alloc _).below hb7
  replace Gb := (Gb.alloc _).below hb7
  have GLE : G6 w7 w6.heap.size #[.int .i64 (N : Int), .int .i64 (LE 0 : Int), .int .i64 (LE 1 : Int), .int .i64 (LE 2 : Int), .int .i64 (LE 3 : Int), .int .i64 (LE 4 : Int)] := (G6.new w6 _ 24).below hb7
  have B7 := B6.trans (Joins.below_le (fresh_below hb7) B6.size)
  clear B6 hb7
  have qa := Ga.lt
  have fa0 := Ga.cell 0
  have fa1 := Ga.cell 1
  have fa2 := Ga.cell 2
  have fa3 := Ga.cell 3
  have fa4 := Ga.cell 4
  have fa5 := Ga.cell 5
  simp at fa0 fa1 fa2 fa3 fa4 fa5
  go_wp2_with fail
  refine (CSI.out _).mono ?_
  rintro e w8 ⟨rfl, hb8⟩
  clear qa fa0 fa1 fa2 fa3 fa4 fa5
  replace GAB := (GAB.alloc _).below hb8
  replace GBA := (GBA.alloc _).below hb8
  replace GLE := (GLE.alloc _).below hb8
  replace Ga := (Ga.alloc _).below hb8
  replace Gb := (Gb.alloc _).below hb8
  have GRI : G6 w8 w7.heap.size #[.int .i64 (N : Int), .int .i64 (RI 0 : Int), .int .i64 (RI 1 : Int), .int .i64 (RI 2 : Int), .int .i64 (RI 3 : Int), .int .i64 (RI 4 : Int)] := (G6.new w7 _ 24).below hb8
  have B8 := B7.trans (Joins.below_le (fresh_below hb8) B7.size)
  clear B7 hb8
  clear GBA
  have qa := Ga.lt
  have fa0 := Ga.cell 0
  have fa1 := Ga.cell 1
  have fa2 := Ga.cell 2
  have fa3 := Ga.cell 3
  have fa4 := Ga.cell 4
  have fa5 := Ga.cell 5
  simp at fa0 fa1 fa2 fa3 fa4 fa5
  go_wp2_with fail
  refine (CSA.out _).mono ?_
  rintro e w9 ⟨rfl, hb9⟩
  clear qa fa0 fa1 fa2 fa3 fa4 fa5
  replace GAB := (GAB.alloc _).below hb9
  replace GLE := (GLE.alloc _).below hb9
  replace GRI := (GRI.alloc _).below hb9
  replace Ga := (Ga.alloc _).below hb9
  replace Gb := (Gb.alloc _).below hb9
  have GSI : G6 w9 w8.heap.size #[.int .i64 (N : Int), .int .i64 (SI 0 : Int), .int .i64 (SI 1 : Int), .int .i64 (SI 2 : Int), .int .i64 (SI 3 : Int), .int .i64 (SI 4 : Int)] := (G6.new w8 _ 24).below hb9
  have B9 := B8.trans (Joins.below_le (fresh_below hb9) B8.size)
  clear B8 hb9
  clear GSI
  have qLE := GLE.lt
  have fLE0 := GLE.cell 0
  have fLE1 := GLE.cell 1
  have fLE2 := GLE.cell 2
  have fLE3 := GLE.cell 3
  have fLE4 := GLE.cell 4
  have fLE5 := GLE.cell 5
  simp at fLE0 fLE1 fLE2 fLE3 fLE4 fLE5
  have qRI := GRI.lt
  have fRI0 := GRI.cell 0
  have fRI1 := GRI.cell 1
  have fRI2 := GRI.cell 2
  have fRI3 := GRI.cell 3
  have fRI4 := GRI.cell 4
  have fRI5 := GRI.cell 5
  simp at fRI0 fRI1 fRI2 fRI3 fRI4 fRI5
  have qa := Ga.lt
  have fa0 := Ga.cell 0
  have fa1 := Ga.cell 1
  have fa2 := Ga.cell 2
  have fa3 := Ga.cell 3
  have fa4 := Ga.cell 4
  have fa5 := Ga.cell 5
  simp at fa0 fa1 fa2 fa3 fa4 fa5
  have qb := Gb.lt
  have fb0 := Gb.cell 0
  have fb1 := Gb.cell 1
  have fb2 := Gb.cell 2
  have fb3 := Gb.cell 3
  have fb4 := Gb.cell 4
  have fb5 := Gb.cell 5
  simp at fb0 fb1 fb2 fb3 fb4 fb5
  go_wp2_with fail
  refine (CSU.out _).mono ?_
  rintro e w10 ⟨rfl, hb10⟩
  clear qLE qRI qa qb fLE0 fLE1 fLE2 fLE3 fLE4 fLE5 fRI0 fRI1 fRI2 fRI3 fRI4 fRI5 fa0 fa1 fa2 fa3 fa4 fa5 fb0 fb1 fb2 fb3 fb4 fb5
  replace GAB := (GAB.alloc _).below hb10
  replace GLE := (GLE.alloc _).below hb10
  replace GRI := (GRI.alloc _).below hb10
  replace Ga := (Ga.alloc _).below hb10
  replace Gb := (Gb.alloc _).below hb10
  have GSA : G6 w10 w9.heap.size #[.int .i64 (N : Int), .int .i64 (SA 0 : Int), .int .i64 (SA 1 : Int), .int .i64 (SA 2 : Int), .int .i64 (SA 3 : Int), .int .i64 (SA 4 : Int)] := (G6.new w9 _ 24).below hb10
  have B10 := B9.trans (Joins.below_le (fresh_below hb10) B9.size)
  clear B9 hb10
  clear GLE
  clear GRI
  clear GSA
  have qb := Gb.lt
  have fb0 := Gb.cell 0
  have fb1 := Gb.cell 1
  have fb2 := Gb.cell 2
  have fb3 := Gb.cell 3
  have fb4 := Gb.cell 4
  have fb5 := Gb.cell 5
  simp at fb0 fb1 fb2 fb3 fb4 fb5
  go_wp2_with fail
  refine (CWH.out _).mono ?_
  rintro e w11 ⟨rfl, hb11⟩
  clear qb fb0 fb1 fb2 fb3 fb4 fb5
  replace GAB := (GAB.alloc _).below hb11
  replace Ga := (Ga.alloc _).below hb11
  replace Gb := (Gb.alloc _).below hb11
  have GSU : G6 w11 w10.heap.size #[.int .i64 (N : Int), .int .i64 (SU 0 : Int), .int .i64 (SU 1 : Int), .int .i64 (SU 2 : Int), .int .i64 (SU 3 : Int), .int .i64 (SU 4 : Int)] := (G6.new w10 _ 24).below hb11
  have B11 := B10.trans (Joins.below_le (fresh_below hb11) B10.size)
  clear B10 hb11
  clear GSU
  have qb := Gb.lt
  have fb0 := Gb.cell 0
  have fb1 := Gb.cell 1
  have fb2 := Gb.cell 2
  have fb3 := Gb.cell 3
  have fb4 := Gb.cell 4
  have fb5 := Gb.cell 5
  simp at fb0 fb1 fb2 fb3 fb4 fb5
  go_wp2_with fail
  refine (CBB.out _).mono ?_
  rintro e w12 ⟨rfl, hb12⟩
  clear qb fb0 fb1 fb2 fb3 fb4 fb5
  replace GAB := (GAB.alloc _).below hb12
  replace Ga := (Ga.alloc _).below hb12
  replace Gb := (Gb.alloc _).below hb12
  have GWH : G6 w12 w11.heap.size #[.int .i64 (N : Int), .int .i64 (WH 0 : Int), .int .i64 (WH 1 : Int), .int .i64 (WH 2 : Int), .int .i64 (WH 3 : Int), .int .i64 (WH 4 : Int)] := (G6.new w11 _ 24).below hb12
  have B12 := B11.trans (Joins.below_le (fresh_below hb12) B11.size)
  clear B11 hb12
  have qAB := GAB.lt
  have fAB0 := GAB.cell 0
  have fAB1 := GAB.cell 1
  have fAB2 := GAB.cell 2
  have fAB3 := GAB.cell 3
  have fAB4 := GAB.cell 4
  have fAB5 := GAB.cell 5
  simp at fAB0 fAB1 fAB2 fAB3 fAB4 fAB5
  go_wp2_with fail
  refine (CPA.out _).mono ?_
  rintro e w13 ⟨rfl, hb13⟩
  clear qAB fAB0 fAB1 fAB2 fAB3 fAB4 fAB5
  replace GAB := (GAB.alloc _).below hb13
  replace GWH := (GWH.alloc _).below hb13
  replace Ga := (Ga.alloc _).below hb13
  replace Gb := (Gb.alloc _).below hb13
  have GBB : G6 w13 w12.heap.size #[.int .i64 (N : Int), .int .i64 (BB 0 : Int), .int .i64 (BB 1 : Int), .int .i64 (BB 2 : Int), .int .i64 (BB 3 : Int), .int .i64 (BB 4 : Int)] := (G6.new w12 _ 24).below hb13
  have B13 := B12.trans (Joins.below_le (fresh_below hb13) B12.size)
  clear B12 hb13
  have qWH := GWH.lt
  have fWH0 := GWH.cell 0
  have fWH1 := GWH.cell 1
  have fWH2 := GWH.cell 2
  have fWH3 := GWH.cell 3
  have fWH4 := GWH.cell 4
  have fWH5 := GWH.cell 5
  simp at fWH0 fWH1 fWH2 fWH3 fWH4 fWH5
  have qa := Ga.lt
  have fa0 := Ga.cell 0
  have fa1 := Ga.cell 1
  have fa2 := Ga.cell 2
  have fa3 := Ga.cell 3
  have fa4 := Ga.cell 4
  have fa5 := Ga.cell 5
  simp at fa0 fa1 fa2 fa3 fa4 fa5
  go_wp2_with fail
  refine (CX.out b0 off _ (HA.out.below (B13.alloc B13.size _))).mono ?_
  rintro e w14 ⟨rfl, hb14⟩
  clear qWH qa fWH0 fWH1 fWH2 fWH3 fWH4 fWH5 fa0 fa1 fa2 fa3 fa4 fa5
  replace GAB := (GAB.alloc _).below hb14
  replace GBB := (GBB.alloc _).below hb14
  replace GWH := (GWH.alloc _).below hb14
  replace Ga := (Ga.alloc _).below hb14
  replace Gb := (Gb.alloc _).below hb14
  have GPA : G6 w14 w13.heap.size #[.int .i64 (N : Int), .int .i64 (PA 0 : Int), .int .i64 (PA 1 : Int), .int .i64 (PA 2 : Int), .int .i64 (PA 3 : Int), .int .i64 (PA 4 : Int)] := (G6.new w13 _ 24).below hb14
  have B14 := B13.trans (Joins.below_le (fresh_below hb14) B13.size)
  clear B13 hb14
  clear GWH
  clear GBB
  clear GPA
  have qb := Gb.lt
  have fb0 := Gb.cell 0
  have fb1 := Gb.cell 1
  have fb2 := Gb.cell 2
  have fb3 := Gb.cell 3
  have fb4 := Gb.cell 4
  have fb5 := Gb.cell 5
  simp at fb0 fb1 fb2 fb3 fb4 fb5
  go_wp2_with fail
  refine (CY.out b0 off _ (HA.out.below (B14.alloc B14.size _))).mono ?_
  rintro e w15 ⟨rfl, hb15⟩
  clear qb fb0 fb1 fb2 fb3 fb4 fb5
  replace GAB := (GAB.alloc _).below hb15
  replace Ga := (Ga.alloc _).below hb15
  replace Gb := (Gb.alloc _).below hb15
  have GX : G6 w15 w14.heap.size #[.int .i64 (N : Int), .int .i64 (X 0 : Int), .int .i64 (X 1 : Int), .int .i64 (X 2 : Int), .int .i64 (X 3 : Int), .int .i64 (X 4 : Int)] := (G6.new w14 _ 24).below hb15
  have B15 := B14.trans (Joins.below_le (fresh_below hb15) B14.size)
  clear B14 hb15
  have qX := GX.lt
  have fX0 := GX.cell 0
  have fX1 := GX.cell 1
  have fX2 := GX.cell 2
  have fX3 := GX.cell 3
  have fX4 := GX.cell 4
  have fX5 := GX.cell 5
  simp at fX0 fX1 fX2 fX3 fX4 fX5
  go_wp2_with fail
  refine (CXY.out _).mono ?_
  rintro e w16 ⟨rfl, hb16⟩
  clear qX fX0 fX1 fX2 fX3 fX4 fX5
  replace GAB := (GAB.alloc _).below hb16
  replace GX := (GX.alloc _).below hb16
  replace Ga := (Ga.alloc _).below hb16
  replace Gb := (Gb.alloc _).below hb16
  have GY : G6 w16 w15.heap.size #[.int .i64 (N : Int), .int .i64 (Y 0 : Int), .int .i64 (Y 1 : Int), .int .i64 (Y 2 : Int), .int .i64 (Y 3 : Int), .int .i64 (Y 4 : Int)] := (G6.new w15 _ 24).below hb16
  have B16 := B15.trans (Joins.below_le (fresh_below hb16) B15.size)
  clear B15 hb16
  clear GY
  have qAB := GAB.lt
  have fAB0 := GAB.cell 0
  have fAB1 := GAB.cell 1
  have fAB2 := GAB.cell 2
  have fAB3 := GAB.cell 3
  have fAB4 := GAB.cell 4
  have fAB5 := GAB.cell 5
  simp at fAB0 fAB1 fAB2 fAB3 fAB4 fAB5
  go_wp2_with fail
  refine (CMO.out b0 off _ (HA.out.below (B16.alloc B16.size _))).mono ?_
  rintro e w17 ⟨rfl, hb17⟩
  clear qAB fAB0 fAB1 fAB2 fAB3 fAB4 fAB5
  replace GAB := (GAB.alloc _).below hb17
  replace GX := (GX.alloc _).below hb17
  replace Ga := (Ga.alloc _).below hb17
  replace Gb := (Gb.alloc _).below hb17
  have GXY : G6 w17 w16.heap.size #[.int .i64 (N : Int), .int .i64 (XY 0 : Int), .int .i64 (XY 1 : Int), .int .i64 (XY 2 : Int), .int .i64 (XY 3 : Int), .int .i64 (XY 4 : Int)] := (G6.new w16 _ 24).below hb17
  have B17 := B16.trans (Joins.below_le (fresh_below hb17) B16.size)
  clear B16 hb17
  clear GAB
  clear Gb
  go_wp2_with fail
  refine (inverse_ok N cap b0 off f h1 h5 hcap Hf.out _ (HA.out.below (B17.alloc B17.size _))).mono ?_
  rintro e w18 ⟨rfl, hb18, hi⟩
  have Ai : Arr w18 (w17.heap.size + 1) 0 N (invr f N) := by simpa using hi
  clear hi
  replace GX := (GX.alloc _).below hb18
  replace GXY := (GXY.alloc _).below hb18
  replace Ga := (Ga.alloc _).below hb18
  have GMO : G6 w18 w17.heap.size #[.int .i64 (N : Int), .int .i64 (MO 0 : Int), .int .i64 (MO 1 : Int), .int .i64 (MO 2 : Int), .int .i64 (MO 3 : Int), .int .i64 (MO 4 : Int)] := (G6.new w17 _ 24).below hb18
  have B18 := B17.trans (Joins.below_le (fresh_below hb18) B17.size)
  clear B17 hb18
  have qXY := GXY.lt
  have fXY0 := GXY.cell 0
  have fXY1 := GXY.cell 1
  have fXY2 := GXY.cell 2
  have fXY3 := GXY.cell 3
  have fXY4 := GXY.cell 4
  have fXY5 := GXY.cell 5
  simp at fXY0 fXY1 fXY2 fXY3 fXY4 fXY5
  have qMO := GMO.lt
  have fMO0 := GMO.cell 0
  have fMO1 := GMO.cell 1
  have fMO2 := GMO.cell 2
  have fMO3 := GMO.cell 3
  have fMO4 := GMO.cell 4
  have fMO5 := GMO.cell 5
  simp at fMO0 fMO1 fMO2 fMO3 fMO4 fMO5
  have qX := GX.lt
  have fX0 := GX.cell 0
  have fX1 := GX.cell 1
  have fX2 := GX.cell 2
  have fX3 := GX.cell 3
  have fX4 := GX.cell 4
  have fX5 := GX.cell 5
  simp at fX0 fX1 fX2 fX3 fX4 fX5
  go_wp2_with fail
  refine (CAG.out (w17.heap.size + 1) 0 _ Ai).mono ?_
  rintro e w19 ⟨rfl, hb19⟩
  clear qXY qMO qX fXY0 fXY1 fXY2 fXY3 fXY4 fXY5 fMO0 fMO1 fMO2 fMO3 fMO4 fMO5 fX0 fX1 fX2 fX3 fX4 fX5
  replace GMO := GMO.below hb19
  replace GX := GX.below hb19
  replace GXY := GXY.below hb19
  replace Ga := Ga.below hb19
  have B19 := B18.trans (Joins.below_le hb19 B18.size)
  clear B18 hb19
  clear GXY
  clear GMO
  clear Ai
  have qa := Ga.lt
  have fa0 := Ga.cell 0
  have fa1 := Ga.cell 1
  have fa2 := Ga.cell 2
  have fa3 := Ga.cell 3
  have fa4 := Ga.cell 4
  have fa5 := Ga.cell 5
  simp at fa0 fa1 fa2 fa3 fa4 fa5
  go_wp2_with fail
  refine (CK.out _).mono ?_
  rintro e w20 ⟨rfl, hb20⟩
  clear qa fa0 fa1 fa2 fa3 fa4 fa5
  replace GX := (GX.alloc _).below hb20
  replace Ga := (Ga.alloc _).below hb20
  have GAG : G6 w20 w19.heap.size #[.int .i64 (N : Int), .int .i64 (AG 0 : Int), .int .i64 (AG 1 : Int), .int .i64 (AG 2 : Int), .int .i64 (AG 3 : Int), .int .i64 (AG 4 : Int)] := (G6.new w19 _ 24).below hb20
  have B20 := B19.trans (Joins.below_le (fresh_below hb20) B19.size)
  clear B19 hb20
  have qX := GX.lt
  have fX0 := GX.cell 0
  have fX1 := GX.cell 1
  have fX2 := GX.cell 2
  have fX3 := GX.cell 3
  have fX4 := GX.cell 4
  have fX5 := GX.cell 5
  simp at fX0 fX1 fX2 fX3 fX4 fX5
  go_wp2_with fail
  refine (COT.out _).mono ?_
  rintro e w21 ⟨rfl, hb21⟩
  clear qX fX0 fX1 fX2 fX3 fX4 fX5
  replace GAG := GAG.below hb21
  replace GX := GX.below hb21
  replace Ga := Ga.below hb21
  have B21 := B20.trans (Joins.below_le hb21 B20.size)
  clear B20 hb21
  go_wp2_with fail
  refine (CI.out _ (HA.out.below B21)).mono ?_
  rintro e w' ⟨rfl, rfl⟩
  have qAG := GAG.lt
  have fAG0 := GAG.cell 0
  have fAG1 := GAG.cell 1
  have fAG2 := GAG.cell 2
  have fAG3 := GAG.cell 3
  have fAG4 := GAG.cell 4
  have fAG5 := GAG.cell 5
  simp at fAG0 fAG1 fAG2 fAG3 fAG4 fAG5
  have qa := Ga.lt
  have fa0 := Ga.cell 0
  have fa1 := Ga.cell 1
  have fa2 := Ga.cell 2
  have fa3 := Ga.cell 3
  have fa4 := Ga.cell 4
  have fa5 := Ga.cell 5
  simp at fa0 fa1 fa2 fa3 fa4 fa5
  go_wp2_with fail
  go_ret
  exact ⟨rfl, B21⟩
end Go.Proofs.Ytabjmaoniicjeaa
