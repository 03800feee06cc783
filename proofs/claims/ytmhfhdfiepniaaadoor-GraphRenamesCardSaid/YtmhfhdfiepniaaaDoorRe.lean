/- The walks of roundtablelaw03.GraphRenames: it returns true, and changes nothing that was there. -/
import Derived.Test.YtmhfhdfiepniaaaDoorGsA
import Derived.Test.YtmhfhdfiepniaaaDoorPcA
import Derived.Test.YtmhfhdfiepniaaaDoorTb
import Derived.Test.YtmhfhdfiepniaaaDoorGrN
import Derived.Test.YtmhfhdfiepniaaaDoorGrR
import Derived.Test.YtmhfhdfiepniaaaDoorPmA
import Derived.Test.YtmhfhdfiepniaaaDoorPmM
import Derived.Test.YtmhfhdfiepniaaaDoorPmD
import Derived.WalkKit
import Derived.WalkSpells
import Derived.WalkLawsBesides
import Derived.Handy
import Derived.Deep.QuietTactic
import Derived.BigQuiet
import Derived.Outline
import Derived.Laws.BitsAllLaws
import Derived.IntWalk
import Derived.Lib.SmallJoins
import Derived.Lib.Hide
namespace Go.Proofs.YtmhfhdfiepniaaaDoor
set_option linter.unusedVariables false
set_option linter.unusedSimpArgs false
open Go.RowKit

theorem rng_of' {n : Nat} {k : Nat → Nat} (h : WF n k) : Rng (fun p => (k p : Int)) := by
  intro p hp
  obtain ⟨⟨h1, h2⟩, h3, h4⟩ := h
  by_cases hn : p < n
  · have := pow_small h2 (h3 p hn).1
    show _ ≤ ((k p : Nat) : Int) ∧ ((k p : Nat) : Int) ≤ _
    omega
  · have := h4 p (by omega) hp
    show _ ≤ ((k p : Nat) : Int) ∧ ((k p : Nat) : Int) ≤ _
    omega

set_option maxRecDepth 100000 in
set_option maxHeartbeats 2000000 in
theorem renames_no1 (na nb : Int) (a b : Nat → Int) (ra : Rng a) (rb : Rng b) (h : ¬ BothOk na nb a b) (A : Option Addr) (len cap : Nat) (w : World) 
    (awake_ok : ∀ w, Calls Tryd.prog 13 #[] w fun e w' => e = .returned (.bool true) ∧ Below w.heap.size w w') :
    Calls Tryd.prog 6 #[iv na a, iv nb b, .slice A len cap] w fun e w' => e = .returned (.bool true) ∧ Below w.heap.size w w' := by
  have HW := Lib.hid awake_ok
  clear awake_ok
  have HB := Lib.hid (fun w => both_no na nb a b ra rb h w)
  clear ra rb h
  go_enter Tryd.func6, Tryd.ntmps6
  go_wp2_with fail
  refine (HB.out _).mono ?_
  rintro e w1 ⟨rfl | rfl | rfl, hb1⟩
  all_goals
    go_wp2_with fail
    refine (HW.out _).mono ?_
    rintro e w2 ⟨rfl, hb2⟩
    go_wp2_with fail
    go_ret
    exact ⟨rfl, ((((Below.refl _ _).alloc (Nat.le_refl _) _).alloc (by simp) _).trans (Joins.below_le hb1 (by simp; omega))).trans (Joins.below_le hb2 (by have := hb1.size; simp at this; omega))⟩

set_option maxRecDepth 100000 in
set_option maxHeartbeats 2000000 in
theorem renames_no2 (N : Nat) (a b : Nat → Nat) (ha : WF N a) (hb : WF N b) (A : Option Addr) (len cap : Nat) (hl : len ≠ N) (w : World) 
    (awake_ok : ∀ w, Calls Tryd.prog 13 #[] w fun e w' => e = .returned (.bool true) ∧ Below w.heap.size w w') :
    Calls Tryd.prog 6 #[iv N (fun p => (a p : Int)), iv N (fun p => (b p : Int)), .slice A len cap] w fun e w' => e = .returned (.bool true) ∧ Below w.heap.size w w' := by
  have HW := Lib.hid awake_ok
  clear awake_ok
  have HB := Lib.hid (fun w => both_yes (N : Int) _ _ (rng_of' ha) (rng_of' hb) (wfi_of ha) (wfi_of hb) w)
  have hne : ((len : Int) != (N : Int)) = true := by simpa using fun e : (len : Int) = N => hl (by omega)
  have hl2 : (len : Int) ≠ (N : Int) := by omega
  clear ha hb hl
  go_enter Tryd.func6, Tryd.ntmps6
  go_wp2_with fail
  refine (HB.out _).mono ?_
  rintro e w1 ⟨rfl, hb1⟩
  have z0 : w1.cell? ⟨w.heap.size, 0, none⟩ = some (.int .i64 (N : Int)) := (hb1.cell (p := ⟨w.heap.size, 0, none⟩) (by simp; omega)).trans (box_cell1' w _ _ _ _ 0)
  have hz : w.heap.size < w1.heap.size := by have := hb1.size; simp at this; omega
  go_wp2_with fail
  refine (HW.out _).mono ?_
  rintro e w2 ⟨rfl, hb2⟩
  go_wp2_with fail
  go_ret
  exact ⟨rfl, ((((Below.refl _ _).alloc (Nat.le_refl _) _).alloc (by simp) _).trans (Joins.below_le hb1 (by simp; omega))).trans (Joins.below_le hb2 (by have := hb1.size; simp at this; omega))⟩

set_option maxRecDepth 100000 in
set_option maxHeartbeats 2000000 in
theorem renames_no3 (w : World) (N cap b0 off : Nat) (a b : Nat → Nat) (x : Nat → Int) (ha : WF N a) (hb : WF N b) (hc : N ≤ cap) (hlt : b0 < w.heap.size) (hA : ∀ i, i < N → w.cell? ⟨b0, off + i, none⟩ = some (.int .i64 (x i))) (hno : pcode N x ≠ 0) 
    (awake_ok : ∀ w, Calls Tryd.prog 13 #[] w fun e w' => e = .returned (.bool true) ∧ Below w.heap.size w w') :
    Calls Tryd.prog 6 #[iv N (fun p => (a p : Int)), iv N (fun p => (b p : Int)), .slice (some ⟨b0, off, none⟩) N cap] w fun e w' => e = .returned (.bool true) ∧ Below w.heap.size w w' := by
  have HW := Lib.hid awake_ok
  clear awake_ok
  have h1 := ha.1.1
  have h5 := ha.1.2
  have HB := Lib.hid (fun w => both_yes (N : Int) _ _ (rng_of' ha) (rng_of' hb) (wfi_of ha) (wfi_of hb) w)
  have hcode : pcode N x = 2 ∨ pcode N x = 7 := by rcases pcode_cases N x with h | h | h; exact absurd h hno; exact .inl h; exact .inr h
  have HP := Lib.hid (fun w hA => pchk_in N cap b0 off x h1 h5 hc w hA)
  have HA := Lib.hid hA
  obtain ⟨r, hr⟩ : ∃ r, pcode N x = r := ⟨_, rfl⟩
  rw [hr] at HP hcode
  clear ha hb hno hr hA
  go_enter Tryd.func6, Tryd.ntmps6
  go_wp2_with fail
  refine (HB.out _).mono ?_
  rintro e w1 ⟨rfl, hb1⟩
  have z0 : w1.cell? ⟨w.heap.size, 0, none⟩ = some (.int .i64 (N : Int)) := (hb1.cell (p := ⟨w.heap.size, 0, none⟩) (by simp; omega)).trans (box_cell1' w _ _ _ _ 0)
  have hz : w.heap.size < w1.heap.size := by have := hb1.size; simp at this; omega
  have hb0 := (((Below.refl _ _).alloc (Nat.le_refl _) _).alloc (by simp) _ : Below w.heap.size w _).trans (Joins.below_le hb1 (by simp; omega))
  go_wp2_with fail
  refine (HP.out _ (fun i hi => (hb0.cell (p := ⟨b0, off + i, none⟩) hlt).trans (HA.out i hi))).mono ?_
  rintro e w2 ⟨rfl, rfl⟩
  rcases hcode with rfl | rfl
  all_goals
    go_wp2_with fail
    refine (HW.out _).mono ?_
    rintro e w2 ⟨rfl, hb2⟩
    go_wp2_with fail
    go_ret
    exact ⟨rfl, hb0.trans (Joins.below_le hb2 (by have := hb1.size; simp at this; omega))⟩

set_option maxRecDepth 100000 in
set_option maxHeartbeats 16000000 in
theorem renames_yes (N cap b0 off : Nat) (a b f : Nat → Nat) (ha : WF N a) (hb : WF N b) (hf : Perm N f) (hcap : N ≤ cap) (w : World) (hA : Arr w b0 off N f)
    (awake_ok : ∀ w, Calls Tryd.prog 13 #[] w fun e w' => e = .returned (.bool true) ∧ Below w.heap.size w w') :
    Calls Tryd.prog 6 #[iv N (fun p => (a p : Int)), iv N (fun p => (b p : Int)), .slice (some ⟨b0, off, none⟩) N cap] w fun e w' => e = .returned (.bool true) ∧ Below w.heap.size w w' := by
  have h1 : 1 ≤ N := ha.1.1
  have h5 : N ≤ 5 := ha.1.2
  have heql := run_eql_g
  have hneq := run_neq_g
  have HW := Lib.hid awake_ok
  have HB := Lib.hid (fun w => both_yes (N : Int) _ _ (rng_of' ha) (rng_of' hb) (wfi_of ha) (wfi_of hb) w)
  have HP := Lib.hid (fun w hA => pchk_ok N cap b0 off f h1 h5 hcap hf w hA)
  clear awake_ok
  obtain ⟨AB, hAB⟩ : ∃ g, prod N a b = g := ⟨_, rfl⟩
  have wAB : WF N AB := hAB ▸ wf_prod ha hb
  have cAB := fun w => compose_ok N a b ha hb w
  rw [hAB] at cAB
  have CAB := Lib.hid cAB
  clear cAB
  obtain ⟨X, hX⟩ : ∃ g, pgr N f AB N = g := ⟨_, rfl⟩
  have wX : WF N X := hX ▸ wf_pgr hf wAB
  have cX := fun bb oo w hA => permute_ok N cap bb oo f AB wAB hcap hf w hA
  rw [hX] at cX
  have CX := Lib.hid cX
  clear cX
  obtain ⟨PA, hPA⟩ : ∃ g, pgr N f a N = g := ⟨_, rfl⟩
  have wPA : WF N PA := hPA ▸ wf_pgr hf ha
  have cPA := fun bb oo w hA => permute_ok N cap bb oo f a ha hcap hf w hA
  rw [hPA] at cPA
  have CPA := Lib.hid cPA
  clear cPA
  obtain ⟨PB, hPB⟩ : ∃ g, pgr N f b N = g := ⟨_, rfl⟩
  have wPB : WF N PB := hPB ▸ wf_pgr hf hb
  have cPB := fun bb oo w hA => permute_ok N cap bb oo f b hb hcap hf w hA
  rw [hPB] at cPB
  have CPB := Lib.hid cPB
  clear cPB
  obtain ⟨Y, hY⟩ : ∃ g, prod N PA PB = g := ⟨_, rfl⟩
  have wY : WF N Y := hY ▸ wf_prod wPA wPB
  have cY := fun w => compose_ok N PA PB wPA wPB w
  rw [hY] at cY
  have CY := Lib.hid cY
  clear cY
  have hinv := perm_inv hf h5
  obtain ⟨BK, hBK⟩ : ∃ g, pgr N (invr f N) PA N = g := ⟨_, rfl⟩
  have wBK : WF N BK := hBK ▸ wf_pgr hinv wPA
  have cBK := fun bb oo w hA => permute_ok N N bb oo (invr f N) PA wPA (Nat.le_refl _) hinv w hA
  rw [hBK] at cBK
  have CBK := Lib.hid cBK
  clear cBK
  obtain ⟨R, hR⟩ : ∃ g, rev N AB = g := ⟨_, rfl⟩
  have wR : WF N R := hR ▸ wf_rev wAB
  have cR := fun w => reverse_ok N AB wAB w
  rw [hR] at cR
  have CR := Lib.hid cR
  clear cR
  obtain ⟨RA, hRA⟩ : ∃ g, rev N a = g := ⟨_, rfl⟩
  have wRA : WF N RA := hRA ▸ wf_rev ha
  have cRA := fun w => reverse_ok N a ha w
  rw [hRA] at cRA
  have CRA := Lib.hid cRA
  clear cRA
  obtain ⟨RB, hRB⟩ : ∃ g, rev N b = g := ⟨_, rfl⟩
  have wRB : WF N RB := hRB ▸ wf_rev hb
  have cRB := fun w => reverse_ok N b hb w
  rw [hRB] at cRB
  have CRB := Lib.hid cRB
  clear cRB
  obtain ⟨S, hS⟩ : ∃ g, prod N RB RA = g := ⟨_, rfl⟩
  have wS : WF N S := hS ▸ wf_prod wRB wRA
  have cS := fun w => compose_ok N RB RA wRB wRA w
  rw [hS] at cS
  have CS := Lib.hid cS
  clear cS
  obtain ⟨T, hT⟩ : ∃ g, rev N R = g := ⟨_, rfl⟩
  have wT : WF N T := hT ▸ wf_rev wR
  have cT := fun w => reverse_ok N R wR w
  rw [hT] at cT
  have CT := Lib.hid cT
  clear cT
  have HI := Lib.hid (fun w hA => inverse_ok N cap b0 off f h1 h5 hcap hf w hA)
  have e1 : ∀ p, p < 5 → X p = Y p := fun p hp => by rw [← hX, ← hY, ← hPA, ← hPB, ← hAB]; exact (pgr_prod hf ha hb hp).symm
  have e2 : ∀ p, p < 5 → BK p = a p := fun p hp => by rw [← hBK, ← hPA]; exact pgr_back hf ha hp
  have e3 : ∀ p, p < 5 → R p = S p := fun p hp => by rw [← hR, ← hS, ← hRA, ← hRB, ← hAB]; exact rev_prod ha hb hp
  have e4 : ∀ p, p < 5 → T p = AB p := fun p hp => by rw [← hT, ← hR]; exact rev_rev wAB hp
  have t1 : geq N N (X 0) (X 1) (X 2) (X 3) (X 4) (Y 0) (Y 1) (Y 2) (Y 3) (Y 4) = true := geq_self _ _ _ _ _ _ _ _ _ _ _ (e1 0 (by omega)) (e1 1 (by omega)) (e1 2 (by omega)) (e1 3 (by omega)) (e1 4 (by omega))
  have t2 : geq N N (BK 0) (BK 1) (BK 2) (BK 3) (BK 4) (a 0) (a 1) (a 2) (a 3) (a 4) = true := geq_self _ _ _ _ _ _ _ _ _ _ _ (e2 0 (by omega)) (e2 1 (by omega)) (e2 2 (by omega)) (e2 3 (by omega)) (e2 4 (by omega))
  have t3 : geq N N (R 0) (R 1) (R 2) (R 3) (R 4) (S 0) (S 1) (S 2) (S 3) (S 4) = true := geq_self _ _ _ _ _ _ _ _ _ _ _ (e3 0 (by omega)) (e3 1 (by omega)) (e3 2 (by omega)) (e3 3 (by omega)) (e3 4 (by omega))
  have t4 : geq N N (T 0) (T 1) (T 2) (T 3) (T 4) (AB 0) (AB 1) (AB 2) (AB 3) (AB 4) = true := geq_self _ _ _ _ _ _ _ _ _ _ _ (e4 0 (by omega)) (e4 1 (by omega)) (e4 2 (by omega)) (e4 3 (by omega)) (e4 4 (by omega))
  have HA := Lib.hid hA
  clear ha hb hf hA hinv e1 e2 e3 e4 hAB wAB hX wX hPA wPA hPB wPB hY wY hBK wBK hR wR hRA wRA hRB wRB hS wS hT wT
  go_enter Tryd.func6, Tryd.ntmps6
  go_wp2_with fail
  refine (HB.out _).mono ?_
  rintro e w1 ⟨rfl, hb1⟩
  have B0 : Below w.heap.size w ((w.alloc (.cells #[.int .i64 (N : Int), .int .i64 (a 0 : Int), .int .i64 (a 1 : Int), .int .i64 (a 2 : Int), .int .i64 (a 3 : Int), .int .i64 (a 4 : Int)] 24)).alloc (.cells #[.int .i64 (N : Int), .int .i64 (b 0 : Int), .int .i64 (b 1 : Int), .int .i64 (b 2 : Int), .int .i64 (b 3 : Int), .int .i64 (b 4 : Int)] 24)) := ((Below.refl _ _).alloc (Nat.le_refl _) _).alloc (by simp) _
  have Ga : G6 w1 w.heap.size #[.int .i64 (N : Int), .int .i64 (a 0 : Int), .int .i64 (a 1 : Int), .int .i64 (a 2 : Int), .int .i64 (a 3 : Int), .int .i64 (a 4 : Int)] := (((G6.new w _ 24).alloc _).below hb1)
  have Gb : G6 w1 (w.heap.size + 1) #[.int .i64 (N : Int), .int .i64 (b 0 : Int), .int .i64 (b 1 : Int), .int .i64 (b 2 : Int), .int .i64 (b 3 : Int), .int .i64 (b 4 : Int)] := ((G6.at_ (by simp) _ 24).below hb1)
  have B1 := B0.trans (Joins.below_le hb1 (by simp; omega))
  clear B0 hb1
  have qa := Ga.lt
  have fa0 := Ga.cell 0
  have fa1 := Ga.cell 1
  have fa2 := Ga.cell 2
  have fa3 := Ga.cell 3
  have fa4 := Ga.cell 4
  have fa5 := Ga.cell 5
  simp at fa0 fa1 fa2 fa3 fa4 fa5
  go_wp2_with fail
  refine (HP.out _ (HA.out.below B1)).mono ?_
  rintro e w' ⟨rfl, rfl⟩
  clear qa fa0 fa1 fa2 fa3 fa4 fa5
  have qa := Ga.lt
  have fa0 := Ga.cell 0
  have fa1 := Ga.cell 1
  have fa2 := Ga.cell 2
  have fa3 := Ga.cell 3
  have fa4 := Ga.cell 4
  have fa5 := Ga.cell 5
  simp at fa0 fa1 fa2 fa3 fa4 fa5
  have qb := Gb.lt
  have fb0 := Gb.cell 0
  have fb1 := Gb.cell 1
  have fb2 := Gb.cell 2
  have fb3 := Gb.cell 3
  have fb4 := Gb.cell 4
  have fb5 := Gb.cell 5
  simp at fb0 fb1 fb2 fb3 fb4 fb5
  go_wp2_with fail
  refine (CAB.out _).mono ?_
  rintro e w2 ⟨rfl, hb2⟩
  clear qa qb fa0 fa1 fa2 fa3 fa4 fa5 fb0 fb1 fb2 fb3 fb4 fb5
  replace Ga := Ga.below hb2
  replace Gb := Gb.below hb2
  have B2 := B1.trans (Joins.below_le hb2 B1.size)
  clear B1 hb2
  go_wp2_with fail
  refine (CX.out b0 off _ (HA.out.below (B2.alloc B2.size _))).mono ?_
  rintro e w3 ⟨rfl, hb3⟩
  replace Ga := (Ga.alloc _).below hb3
  replace Gb := (Gb.alloc _).below hb3
  have GAB : G6 w3 w2.heap.size #[.int .i64 (N : Int), .int .i64 (AB 0 : Int), .int .i64 (AB 1 : Int), .int .i64 (AB 2 : Int), .int .i64 (AB 3 : Int), .int .i64 (AB 4 : Int)] := (G6.new w2 _ 24).below hb3
  have B3 := B2.trans (Joins.below_le (fresh_below hb3) B2.size)
  clear B2 hb3
  have qa := Ga.lt
  have fa0 := Ga.cell 0
  have fa1 := Ga.cell 1
  have fa2 := Ga.cell 2
  have fa3 := Ga.cell 3
  have fa4 := Ga.cell 4
  have fa5 := Ga.cell 5
  simp at fa0 fa1 fa2 fa3 fa4 fa5
  go_wp2_with fail
  refine (CPA.out b0 off _ (HA.out.below (B3.alloc B3.size _))).mono ?_
  rintro e w4 ⟨rfl, hb4⟩
  clear qa fa0 fa1 fa2 fa3 fa4 fa5
  replace GAB := (GAB.alloc _).below hb4
  replace Ga := (Ga.alloc _).below hb4
  replace Gb := (Gb.alloc _).below hb4
  have GX : G6 w4 w3.heap.size #[.int .i64 (N : Int), .int .i64 (X 0 : Int), .int .i64 (X 1 : Int), .int .i64 (X 2 : Int), .int .i64 (X 3 : Int), .int .i64 (X 4 : Int)] := (G6.new w3 _ 24).below hb4
  have B4 := B3.trans (Joins.below_le (fresh_below hb4) B3.size)
  clear B3 hb4
  have qb := Gb.lt
  have fb0 := Gb.cell 0
  have fb1 := Gb.cell 1
  have fb2 := Gb.cell 2
  have fb3 := Gb.cell 3
  have fb4 := Gb.cell 4
  have fb5 := Gb.cell 5
  simp at fb0 fb1 fb2 fb3 fb4 fb5
  go_wp2_with fail
  refine (CPB.out b0 off _ (HA.out.below (B4.alloc B4.size _))).mono ?_
  rintro e w5 ⟨rfl, hb5⟩
  clear qb fb0 fb1 fb2 fb3 fb4 fb5
  replace GAB := (GAB.alloc _).below hb5
  replace GX := (GX.alloc _).below hb5
  replace Ga := (Ga.alloc _).below hb5
  replace Gb := (Gb.alloc _).below hb5
  have GPA : G6 w5 w4.heap.size #[.int .i64 (N : Int), .int .i64 (PA 0 : Int), .int .i64 (PA 1 : Int), .int .i64 (PA 2 : Int), .int .i64 (PA 3 : Int), .int .i64 (PA 4 : Int)] := (G6.new w4 _ 24).below hb5
  have B5 := B4.trans (Joins.below_le (fresh_below hb5) B4.size)
  clear B4 hb5
  have qPA := GPA.lt
  have fPA0 := GPA.cell 0
  have fPA1 := GPA.cell 1
  have fPA2 := GPA.cell 2
  have fPA3 := GPA.cell 3
  have fPA4 := GPA.cell 4
  have fPA5 := GPA.cell 5
  simp at fPA0 fPA1 fPA2 fPA3 fPA4 fPA5
  go_wp2_with fail
  refine (CY.out _).mono ?_
  rintro e w6 ⟨rfl, hb6⟩
  clear qPA fPA0 fPA1 fPA2 fPA3 fPA4 fPA5
  replace GAB := (GAB.alloc _).below hb6
  replace GPA := (GPA.alloc _).below hb6
  replace GX := (GX.alloc _).below hb6
  replace Ga := (Ga.alloc _).below hb6
  replace Gb := (Gb.alloc _).below hb6
  have GPB : G6 w6 w5.heap.size #[.int .i64 (N : Int), .int .i64 (PB 0 : Int), .int .i64 (PB 1 : Int), .int .i64 (PB 2 : Int), .int .i64 (PB 3 : Int), .int .i64 (PB 4 : Int)] := (G6.new w5 _ 24).below hb6
  have B6 := B5.trans (Joins.below_le (fresh_below hb6) B5.size)
  clear B5 hb6
  clear GPB
  go_wp2_with fail
  refine (HI.out _ (HA.out.below (B6.alloc B6.size _))).mono ?_
  rintro e w7 ⟨rfl, hb7, hi⟩
  have Ai : Arr w7 (w6.heap.size + 1) 0 N (invr f N) := by simpa using hi
  clear hi
  replace GAB := (GAB.alloc _).below hb7
  replace GPA := (GPA.alloc _).below hb7
  replace GX := (GX.alloc _).below hb7
  replace Ga := (Ga.alloc _).below hb7
  replace Gb := (Gb.alloc _).below hb7
  have GY : G6 w7 w6.heap.size #[.int .i64 (N : Int), .int .i64 (Y 0 : Int), .int .i64 (Y 1 : Int), .int .i64 (Y 2 : Int), .int .i64 (Y 3 : Int), .int .i64 (Y 4 : Int)] := (G6.new w6 _ 24).below hb7
  have B7 := B6.trans (Joins.below_le (fresh_below hb7) B6.size)
  clear B6 hb7
  have qPA := GPA.lt
  have fPA0 := GPA.cell 0
  have fPA1 := GPA.cell 1
  have fPA2 := GPA.cell 2
  have fPA3 := GPA.cell 3
  have fPA4 := GPA.cell 4
  have fPA5 := GPA.cell 5
  simp at fPA0 fPA1 fPA2 fPA3 fPA4 fPA5
  go_wp2_with fail
  refine (CBK.out (w6.heap.size + 1) 0 _ Ai).mono ?_
  rintro e w8 ⟨rfl, hb8⟩
  clear qPA fPA0 fPA1 fPA2 fPA3 fPA4 fPA5
  replace GAB := GAB.below hb8
  replace GPA := GPA.below hb8
  replace GX := GX.below hb8
  replace GY := GY.below hb8
  replace Ga := Ga.below hb8
  replace Gb := Gb.below hb8
  have B8 := B7.trans (Joins.below_le hb8 B7.size)
  clear B7 hb8
  clear GPA
  clear Ai
  have qX := GX.lt
  have fX0 := GX.cell 0
  have fX1 := GX.cell 1
  have fX2 := GX.cell 2
  have fX3 := GX.cell 3
  have fX4 := GX.cell 4
  have fX5 := GX.cell 5
  simp at fX0 fX1 fX2 fX3 fX4 fX5
  have qY := GY.lt
  have fY0 := GY.cell 0
  have fY1 := GY.cell 1
  have fY2 := GY.cell 2
  have fY3 := GY.cell 3
  have fY4 := GY.cell 4
  have fY5 := GY.cell 5
  simp at fY0 fY1 fY2 fY3 fY4 fY5
  have qa := Ga.lt
  have fa0 := Ga.cell 0
  have fa1 := Ga.cell 1
  have fa2 := Ga.cell 2
  have fa3 := Ga.cell 3
  have fa4 := Ga.cell 4
  have fa5 := Ga.cell 5
  simp at fa0 fa1 fa2 fa3 fa4 fa5
  have qAB := GAB.lt
  have fAB0 := GAB.cell 0
  have fAB1 := GAB.cell 1
  have fAB2 := GAB.cell 2
  have fAB3 := GAB.cell 3
  have fAB4 := GAB.cell 4
  have fAB5 := GAB.cell 5
  simp at fAB0 fAB1 fAB2 fAB3 fAB4 fAB5
  go_wp2_with fail
  refine (CR.out _).mono ?_
  rintro e w9 ⟨rfl, hb9⟩
  clear qX qY qa qAB fX0 fX1 fX2 fX3 fX4 fX5 fY0 fY1 fY2 fY3 fY4 fY5 fa0 fa1 fa2 fa3 fa4 fa5 fAB0 fAB1 fAB2 fAB3 fAB4 fAB5
  replace GAB := (GAB.alloc _).below hb9
  replace GX := (GX.alloc _).below hb9
  replace GY := (GY.alloc _).below hb9
  replace Ga := (Ga.alloc _).below hb9
  replace Gb := (Gb.alloc _).below hb9
  have GBK : G6 w9 w8.heap.size #[.int .i64 (N : Int), .int .i64 (BK 0 : Int), .int .i64 (BK 1 : Int), .int .i64 (BK 2 : Int), .int .i64 (BK 3 : Int), .int .i64 (BK 4 : Int)] := (G6.new w8 _ 24).below hb9
  have B9 := B8.trans (Joins.below_le (fresh_below hb9) B8.size)
  clear B8 hb9
  clear GX
  clear GY
  clear GBK
  have qa := Ga.lt
  have fa0 := Ga.cell 0
  have fa1 := Ga.cell 1
  have fa2 := Ga.cell 2
  have fa3 := Ga.cell 3
  have fa4 := Ga.cell 4
  have fa5 := Ga.cell 5
  simp at fa0 fa1 fa2 fa3 fa4 fa5
  go_wp2_with fail
  refine (CRA.out _).mono ?_
  rintro e w10 ⟨rfl, hb10⟩
  clear qa fa0 fa1 fa2 fa3 fa4 fa5
  replace GAB := (GAB.alloc _).below hb10
  replace Ga := (Ga.alloc _).below hb10
  replace Gb := (Gb.alloc _).below hb10
  have GR : G6 w10 w9.heap.size #[.int .i64 (N : Int), .int .i64 (R 0 : Int), .int .i64 (R 1 : Int), .int .i64 (R 2 : Int), .int .i64 (R 3 : Int), .int .i64 (R 4 : Int)] := (G6.new w9 _ 24).below hb10
  have B10 := B9.trans (Joins.below_le (fresh_below hb10) B9.size)
  clear B9 hb10
  have qb := Gb.lt
  have fb0 := Gb.cell 0
  have fb1 := Gb.cell 1
  have fb2 := Gb.cell 2
  have fb3 := Gb.cell 3
  have fb4 := Gb.cell 4
  have fb5 := Gb.cell 5
  simp at fb0 fb1 fb2 fb3 fb4 fb5
  go_wp2_with fail
  refine (CRB.out _).mono ?_
  rintro e w11 ⟨rfl, hb11⟩
  clear qb fb0 fb1 fb2 fb3 fb4 fb5
  replace GAB := (GAB.alloc _).below hb11
  replace GR := (GR.alloc _).below hb11
  replace Ga := (Ga.alloc _).below hb11
  replace Gb := (Gb.alloc _).below hb11
  have GRA : G6 w11 w10.heap.size #[.int .i64 (N : Int), .int .i64 (RA 0 : Int), .int .i64 (RA 1 : Int), .int .i64 (RA 2 : Int), .int .i64 (RA 3 : Int), .int .i64 (RA 4 : Int)] := (G6.new w10 _ 24).below hb11
  have B11 := B10.trans (Joins.below_le (fresh_below hb11) B10.size)
  clear B10 hb11
  clear Ga
  clear Gb
  have qRA := GRA.lt
  have fRA0 := GRA.cell 0
  have fRA1 := GRA.cell 1
  have fRA2 := GRA.cell 2
  have fRA3 := GRA.cell 3
  have fRA4 := GRA.cell 4
  have fRA5 := GRA.cell 5
  simp at fRA0 fRA1 fRA2 fRA3 fRA4 fRA5
  go_wp2_with fail
  refine (CS.out _).mono ?_
  rintro e w12 ⟨rfl, hb12⟩
  clear qRA fRA0 fRA1 fRA2 fRA3 fRA4 fRA5
  replace GAB := (GAB.alloc _).below hb12
  replace GR := (GR.alloc _).below hb12
  replace GRA := (GRA.alloc _).below hb12
  have GRB : G6 w12 w11.heap.size #[.int .i64 (N : Int), .int .i64 (RB 0 : Int), .int .i64 (RB 1 : Int), .int .i64 (RB 2 : Int), .int .i64 (RB 3 : Int), .int .i64 (RB 4 : Int)] := (G6.new w11 _ 24).below hb12
  have B12 := B11.trans (Joins.below_le (fresh_below hb12) B11.size)
  clear B11 hb12
  clear GRA
  clear GRB
  have qR := GR.lt
  have fR0 := GR.cell 0
  have fR1 := GR.cell 1
  have fR2 := GR.cell 2
  have fR3 := GR.cell 3
  have fR4 := GR.cell 4
  have fR5 := GR.cell 5
  simp at fR0 fR1 fR2 fR3 fR4 fR5
  go_wp2_with fail
  refine (CT.out _).mono ?_
  rintro e w13 ⟨rfl, hb13⟩
  clear qR fR0 fR1 fR2 fR3 fR4 fR5
  replace GAB := (GAB.alloc _).below hb13
  replace GR := (GR.alloc _).below hb13
  have GS : G6 w13 w12.heap.size #[.int .i64 (N : Int), .int .i64 (S 0 : Int), .int .i64 (S 1 : Int), .int .i64 (S 2 : Int), .int .i64 (S 3 : Int), .int .i64 (S 4 : Int)] := (G6.new w12 _ 24).below hb13
  have B13 := B12.trans (Joins.below_le (fresh_below hb13) B12.size)
  clear B12 hb13
  have qR := GR.lt
  have fR0 := GR.cell 0
  have fR1 := GR.cell 1
  have fR2 := GR.cell 2
  have fR3 := GR.cell 3
  have fR4 := GR.cell 4
  have fR5 := GR.cell 5
  simp at fR0 fR1 fR2 fR3 fR4 fR5
  have qS := GS.lt
  have fS0 := GS.cell 0
  have fS1 := GS.cell 1
  have fS2 := GS.cell 2
  have fS3 := GS.cell 3
  have fS4 := GS.cell 4
  have fS5 := GS.cell 5
  simp at fS0 fS1 fS2 fS3 fS4 fS5
  have qAB := GAB.lt
  have fAB0 := GAB.cell 0
  have fAB1 := GAB.cell 1
  have fAB2 := GAB.cell 2
  have fAB3 := GAB.cell 3
  have fAB4 := GAB.cell 4
  have fAB5 := GAB.cell 5
  simp at fAB0 fAB1 fAB2 fAB3 fAB4 fAB5
  go_wp2_with fail
  refine (HW.out _).mono ?_
  rintro e w14 ⟨rfl, hb14⟩
  clear qR qS qAB fR0 fR1 fR2 fR3 fR4 fR5 fS0 fS1 fS2 fS3 fS4 fS5 fAB0 fAB1 fAB2 fAB3 fAB4 fAB5
  replace GAB := (GAB.alloc _).below hb14
  replace GR := (GR.alloc _).below hb14
  replace GS := (GS.alloc _).below hb14
  have GT : G6 w14 w13.heap.size #[.int .i64 (N : Int), .int .i64 (T 0 : Int), .int .i64 (T 1 : Int), .int .i64 (T 2 : Int), .int .i64 (T 3 : Int), .int .i64 (T 4 : Int)] := (G6.new w13 _ 24).below hb14
  have B14 := B13.trans (Joins.below_le (fresh_below hb14) B13.size)
  clear B13 hb14
  go_wp2_with fail
  go_ret
  exact ⟨rfl, B14⟩
end Go.Proofs.YtmhfhdfiepniaaaDoor
