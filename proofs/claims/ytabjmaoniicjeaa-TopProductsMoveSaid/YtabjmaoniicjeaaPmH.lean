/- TopProductsMove: for all graphs a and b, well-formed or not, and all lists of integers, the call returns true, and all arguments read as before. No further condition. -/
import Derived.Test.YtabjmaoniicjeaaGrB
import Derived.Test.YtabjmaoniicjeaaGrA
import Derived.Test.YtabjmaoniicjeaaGrC
import Derived.Test.YtabjmaoniicjeaaGrD
import Derived.Test.YtabjmaoniicjeaaGrE
import Derived.Test.YtabjmaoniicjeaaGrF
import Derived.Test.YtabjmaoniicjeaaGrG
import Derived.Test.YtabjmaoniicjeaaGrJ
import Derived.Test.YtabjmaoniicjeaaGrL
import Derived.Test.YtabjmaoniicjeaaGrP
import Derived.Test.YtabjmaoniicjeaaPmE
import Derived.Test.YtabjmaoniicjeaaPmF
import Derived.Test.YtabjmaoniicjeaaPmG
import Derived.Test.YtabjmaoniicjeaaGrQ
import Derived.Test.YtabjmaoniicjeaaGrN
import Derived.Deep.RegionWith
import Derived.Test.YtabjmaoniicjeaaGrM
import Derived.WalkKit
import Derived.WalkSpells
import Derived.WalkLawsBesides
import Derived.Handy
import Derived.Deep.QuietTactic
import Derived.BigQuiet
import Derived.Outline
import Derived.Laws.BitsAllLaws
import Derived.IntWalk
import Derived.Lib.SmallJoins
import Derived.Lib.Hide
namespace Go.Proofs.Ytabjmaoniicjeaa
open Go.RowKit







open Go.ChangeShapes Go.WideShapes Go.ChangeAt

theorem graphs2_no (na nb : Int) (a b : Nat → Int) (ha : Rng a) (hb : Rng b) (hno : ¬ BothOk na nb a b) (g : Nat) (w : World) (hg : g < w.heap.size)
    (hG : ∀ i, w.cell? ⟨g, i, none⟩ = (#[.int .i64 na, .int .i64 (a 0), .int .i64 (a 1), .int .i64 (a 2), .int .i64 (a 3), .int .i64 (a 4), .int .i64 nb, .int .i64 (b 0), .int .i64 (b 1), .int .i64 (b 2), .int .i64 (b 3), .int .i64 (b 4)] : Array Value)[i]?) :
    Calls Try.prog 6 #[.slice (some ⟨g, 0, none⟩) 2 2] w fun e w' => e = .returned (.bool false) ∧ Below w.heap.size w w' :=
  (graphs2_any na nb a b ha hb g w hg hG).mono fun e w' ⟨r, he, hr, hB⟩ => ⟨by cases r with | false => exact he | true => exact absurd (hr.1 rfl) hno, hB⟩

theorem rpc_no (n cap b off : Nat) (x : Nat → Int) (h1 : 1 ≤ n) (h5 : n ≤ 5) (hno : ¬ PermI n x) (w : World) (hA : ∀ i, i < n → w.cell? ⟨b, off + i, none⟩ = some (.int .i64 (x i))) :
    Calls Try.prog 9 #[.slice (some ⟨b, off, none⟩) n cap] w fun e w' => ∃ r : Int, e = .returned (.int .i64 r) ∧ (r != 0) = true ∧ Below w.heap.size w w' :=
  (rpc_any n cap b off x h1 h5 w hA).mono fun e w' ⟨r, he, hr, d, hd⟩ => ⟨r, he, by simpa using (fun e => hno (hr.1 e)), by rw [hd]; exact below_dn d (Below.refl _ _)⟩

set_option maxRecDepth 100000 in
set_option maxHeartbeats 1000000 in
theorem walk2_no1 (na nb : Int) (a b : Nat → Int) (ha : Rng a) (hb : Rng b) (hno : ¬ BothOk na nb a b) (A : Option Addr) (len cap : Nat) (w : World) :
    Calls Try.prog 4 #[.agg #[.int .i64 na, .int .i64 (a 0), .int .i64 (a 1), .int .i64 (a 2), .int .i64 (a 3), .int .i64 (a 4)], .agg #[.int .i64 nb, .int .i64 (b 0), .int .i64 (b 1), .int .i64 (b 2), .int .i64 (b 3), .int .i64 (b 4)], .slice A len cap] w fun e w' => e = .returned (.bool true) ∧ Below w.heap.size w w' := by
  have Ha := Lib.hid ha
  have Hb := Lib.hid hb
  have Hno := Lib.hid hno
  clear ha hb hno
  go_enter Try.func4, Try.ntmps4
  go_wp2_with fail
  refine (awake_c _).mono ?_
  rintro e w1 ⟨rfl, hb1⟩
  have B0 : Below w.heap.size w ((w.alloc (.cells #[.int .i64 na, .int .i64 (a 0), .int .i64 (a 1), .int .i64 (a 2), .int .i64 (a 3), .int .i64 (a 4)] 24)).alloc (.cells #[.int .i64 nb, .int .i64 (b 0), .int .i64 (b 1), .int .i64 (b 2), .int .i64 (b 3), .int .i64 (b 4)] 24)) := ((Below.refl _ _).alloc (Nat.le_refl _) _).alloc (by simp) _
  have Ga : G6 w1 w.heap.size #[.int .i64 na, .int .i64 (a 0), .int .i64 (a 1), .int .i64 (a 2), .int .i64 (a 3), .int .i64 (a 4)] := (((G6.new w _ 24).alloc _).below hb1)
  have Gb : G6 w1 (w.heap.size + 1) #[.int .i64 nb, .int .i64 (b 0), .int .i64 (b 1), .int .i64 (b 2), .int .i64 (b 3), .int .i64 (b 4)] := ((G6.at_ (by simp) _ 24).below hb1)
  have B1 := B0.trans (Joins.below_le hb1 (by simp; omega))
  clear B0 hb1
  have qa := Ga.lt
  have fa0 := Ga.cell 0
  have fa1 := Ga.cell 1
  have fa2 := Ga.cell 2
  have fa3 := Ga.cell 3
  have fa4 := Ga.cell 4
  have fa5 := Ga.cell 5
  simp at fa0 fa1 fa2 fa3 fa4 fa5
  have qb := Gb.lt
  have fb0 := Gb.cell 0
  have fb1 := Gb.cell 1
  have fb2 := Gb.cell 2
  have fb3 := Gb.cell 3
  have fb4 := Gb.cell 4
  have fb5 := Gb.cell 5
  simp at fb0 fb1 fb2 fb3 fb4 fb5
  go_wp2_with fail
  refine (graphs2_no na nb a b Ha.out Hb.out Hno.out w1.heap.size _ (by simp) (fun i => World.cell?_alloc_mark w1 _ _ (0, 0) i)).mono ?_
  rintro e w2 ⟨rfl, hb2⟩
  go_wp2_with fail
  go_ret
  exact ⟨rfl, B1.trans (Joins.below_le (fresh_below hb2) B1.size)⟩

set_option maxRecDepth 100000 in
set_option maxHeartbeats 1000000 in
theorem walk2_no2 (N : Nat) (a b : Nat → Nat) (ha : WF N a) (hb : WF N b) (A : Option Addr) (len cap : Nat) (hl : len ≠ N) (w : World) :
    Calls Try.prog 4 #[gv N a, gv N b, .slice A len cap] w fun e w' => e = .returned (.bool true) ∧ Below w.heap.size w w' := by
  have hne : ((len : Int) != (N : Int)) = true := by rw [bne_iff_ne]; omega
  have Ha := Lib.hid ha
  have Hb := Lib.hid hb
  clear ha hb hl
  go_enter Try.func4, Try.ntmps4
  go_wp2_with fail
  refine (awake_c _).mono ?_
  rintro e w1 ⟨rfl, hb1⟩
  have B0 : Below w.heap.size w ((w.alloc (.cells #[.int .i64 (N : Int), .int .i64 (a 0 : Int), .int .i64 (a 1 : Int), .int .i64 (a 2 : Int), .int .i64 (a 3 : Int), .int .i64 (a 4 : Int)] 24)).alloc (.cells #[.int .i64 (N : Int), .int .i64 (b 0 : Int), .int .i64 (b 1 : Int), .int .i64 (b 2 : Int), .int .i64 (b 3 : Int), .int .i64 (b 4 : Int)] 24)) := ((Below.refl _ _).alloc (Nat.le_refl _) _).alloc (by simp) _
  have Ga : G6 w1 w.heap.size #[.int .i64 (N : Int), .int .i64 (a 0 : Int), .int .i64 (a 1 : Int), .int .i64 (a 2 : Int), .int .i64 (a 3 : Int), .int .i64 (a 4 : Int)] := (((G6.new w _ 24).alloc _).below hb1)
  have Gb : G6 w1 (w.heap.size + 1) #[.int .i64 (N : Int), .int .i64 (b 0 : Int), .int .i64 (b 1 : Int), .int .i64 (b 2 : Int), .int .i64 (b 3 : Int), .int .i64 (b 4 : Int)] := ((G6.at_ (by simp) _ 24).below hb1)
  have B1 := B0.trans (Joins.below_le hb1 (by simp; omega))
  clear B0 hb1
  have qa := Ga.lt
  have fa0 := Ga.cell 0
  have fa1 := Ga.cell 1
  have fa2 := Ga.cell 2
  have fa3 := Ga.cell 3
  have fa4 := Ga.cell 4
  have fa5 := Ga.cell 5
  simp at fa0 fa1 fa2 fa3 fa4 fa5
  have qb := Gb.lt
  have fb0 := Gb.cell 0
  have fb1 := Gb.cell 1
  have fb2 := Gb.cell 2
  have fb3 := Gb.cell 3
  have fb4 := Gb.cell 4
  have fb5 := Gb.cell 5
  simp at fb0 fb1 fb2 fb3 fb4 fb5
  go_wp2_with fail
  refine (graphs2_yes N a b Ha.out Hb.out w1.heap.size _ (by simp) (fun i => World.cell?_alloc_mark w1 _ _ (0, 0) i)).mono ?_
  rintro e w2 ⟨rfl, hb2⟩
  clear qa qb fa0 fa1 fa2 fa3 fa4 fa5 fb0 fb1 fb2 fb3 fb4 fb5
  replace Ga := (Ga.alloc _).below hb2
  have qa := Ga.lt
  have fa0 := Ga.cell 0
  have fa1 := Ga.cell 1
  have fa2 := Ga.cell 2
  have fa3 := Ga.cell 3
  have fa4 := Ga.cell 4
  have fa5 := Ga.cell 5
  simp at fa0 fa1 fa2 fa3 fa4 fa5
  go_wp2_with fail
  go_ret
  exact ⟨rfl, B1.trans (Joins.below_le (fresh_below hb2) B1.size)⟩

set_option maxRecDepth 100000 in
set_option maxHeartbeats 1000000 in
theorem walk2_no3 (N cap b0 off : Nat) (a b : Nat → Nat) (x : Nat → Int) (ha : WF N a) (hb : WF N b) (hno : ¬ PermI N x) (w : World) (hlt : b0 < w.heap.size) (hA : ∀ i, i < N → w.cell? ⟨b0, off + i, none⟩ = some (.int .i64 (x i))) :
    Calls Try.prog 4 #[gv N a, gv N b, .slice (some ⟨b0, off, none⟩) N cap] w fun e w' => e = .returned (.bool true) ∧ Below w.heap.size w w' := by
  have h1 : 1 ≤ N := ha.1.1
  have h5 : N ≤ 5 := ha.1.2
  have Ha := Lib.hid ha
  have Hb := Lib.hid hb
  have Hno := Lib.hid hno
  have HA := Lib.hid hA
  clear ha hb hno hA
  go_enter Try.func4, Try.ntmps4
  go_wp2_with fail
  refine (awake_c _).mono ?_
  rintro e w1 ⟨rfl, hb1⟩
  have B0 : Below w.heap.size w ((w.alloc (.cells #[.int .i64 (N : Int), .int .i64 (a 0 : Int), .int .i64 (a 1 : Int), .int .i64 (a 2 : Int), .int .i64 (a 3 : Int), .int .i64 (a 4 : Int)] 24)).alloc (.cells #[.int .i64 (N : Int), .int .i64 (b 0 : Int), .int .i64 (b 1 : Int), .int .i64 (b 2 : Int), .int .i64 (b 3 : Int), .int .i64 (b 4 : Int)] 24)) := ((Below.refl _ _).alloc (Nat.le_refl _) _).alloc (by simp) _
  have Ga : G6 w1 w.heap.size #[.int .i64 (N : Int), .int .i64 (a 0 : Int), .int .i64 (a 1 : Int), .int .i64 (a 2 : Int), .int .i64 (a 3 : Int), .int .i64 (a 4 : Int)] := (((G6.new w _ 24).alloc _).below hb1)
  have Gb : G6 w1 (w.heap.size + 1) #[.int .i64 (N : Int), .int .i64 (b 0 : Int), .int .i64 (b 1 : Int), .int .i64 (b 2 : Int), .int .i64 (b 3 : Int), .int .i64 (b 4 : Int)] := ((G6.at_ (by simp) _ 24).below hb1)
  have B1 := B0.trans (Joins.below_le hb1 (by simp; omega))
  clear B0 hb1
  have qa := Ga.lt
  have fa0 := Ga.cell 0
  have fa1 := Ga.cell 1
  have fa2 := Ga.cell 2
  have fa3 := Ga.cell 3
  have fa4 := Ga.cell 4
  have fa5 := Ga.cell 5
  simp at fa0 fa1 fa2 fa3 fa4 fa5
  have qb := Gb.lt
  have fb0 := Gb.cell 0
  have fb1 := Gb.cell 1
  have fb2 := Gb.cell 2
  have fb3 := Gb.cell 3
  have fb4 := Gb.cell 4
  have fb5 := Gb.cell 5
  simp at fb0 fb1 fb2 fb3 fb4 fb5
  go_wp2_with fail
  refine (graphs2_yes N a b Ha.out Hb.out w1.heap.size _ (by simp) (fun i => World.cell?_alloc_mark w1 _ _ (0, 0) i)).mono ?_
  rintro e w2 ⟨rfl, hb2⟩
  clear qa qb fa0 fa1 fa2 fa3 fa4 fa5 fb0 fb1 fb2 fb3 fb4 fb5
  replace Ga := (Ga.alloc _).below hb2
  have B2 := B1.trans (Joins.below_le (fresh_below hb2) B1.size)
  have qa := Ga.lt
  have fa0 := Ga.cell 0
  have fa1 := Ga.cell 1
  have fa2 := Ga.cell 2
  have fa3 := Ga.cell 3
  have fa4 := Ga.cell 4
  have fa5 := Ga.cell 5
  simp at fa0 fa1 fa2 fa3 fa4 fa5
  go_wp2_with fail
  refine (rpc_no N cap b0 off x h1 h5 Hno.out _ (fun i hi => (B2.cell (p := ⟨b0, off + i, none⟩) hlt).trans (HA.out i hi))).mono ?_
  rintro e w3 ⟨r, rfl, hr, hb3⟩
  go_wp2_with fail
  go_ret
  exact ⟨rfl, B2.trans (Joins.below_le hb3 B2.size)⟩

theorem perm_of {n : Nat} {x : Nat → Int} (h : PermI n x) : Perm n (fun i => (x i).toNat) :=
  ⟨fun i hi => by have := h.in_ i hi; show (x i).toNat < n; omega, fun p q hp hq e => by
    have hp' := h.in_ p hp
    have hq' := h.in_ q hq
    have e' : (x p).toNat = (x q).toNat := e
    have e2 : x p = x q := by omega
    rcases Nat.lt_trichotomy p q with hl | rfl | hl
    · exact absurd e2 (h.ne q hq p hl)
    · rfl
    · exact absurd e2.symm (h.ne p hp q hl)⟩

/-- What is told of the list: it is nil, or it lies there. -/
def IsInts (w : World) (A : Option Addr) (len cap : Nat) (x : Nat → Int) : Prop :=
  (A = none ∧ len = 0) ∨ ∃ b off, ∃ spot, A = some ⟨b, off, spot⟩ ∧ len ≤ cap ∧ (0 < len → spot = none) ∧ (0 < len → b < w.heap.size) ∧ ∀ i, i < len → w.cell? ⟨b, off + i, none⟩ = some (.int .i64 (x i))

theorem walk2_any (na nb : Int) (a b : Nat → Int) (ha : Rng a) (hb : Rng b) (A : Option Addr) (len cap : Nat) (x : Nat → Int) (w : World) (hx : IsInts w A len cap x) :
    Calls Try.prog 4 #[.agg #[.int .i64 na, .int .i64 (a 0), .int .i64 (a 1), .int .i64 (a 2), .int .i64 (a 3), .int .i64 (a 4)], .agg #[.int .i64 nb, .int .i64 (b 0), .int .i64 (b 1), .int .i64 (b 2), .int .i64 (b 3), .int .i64 (b 4)], .slice A len cap] w fun e w' => e = .returned (.bool true) ∧ Below w.heap.size w w' := by
  by_cases h : BothOk na nb a b
  · obtain ⟨ka, kb, rfl⟩ := h
    obtain ⟨N, rfl⟩ := Int.eq_ofNat_of_zero_le (show 0 ≤ nb by have := ka.1; omega)
    obtain ⟨wa, ea⟩ := wf_of ka
    obtain ⟨wb, eb⟩ := wf_of kb
    have key : Calls Try.prog 4 #[gv N (fun p => (a p).toNat), gv N (fun p => (b p).toNat), .slice A len cap] w fun e w' => e = .returned (.bool true) ∧ Below w.heap.size w w' := by
      by_cases hl : len = N
      · subst hl
        have h1 : 1 ≤ len := wa.1.1
        rcases hx with ⟨_, h0⟩ | ⟨b0, off, spot, rfl, hc, hs, hlt, hcell⟩
        · omega
        · rw [hs (by omega)]
          by_cases hp : PermI len x
          · refine walk2_yes len cap b0 off _ _ (fun i => (x i).toNat) wa wb (perm_of hp) hc w ⟨hlt (by omega), fun i hi => ?_⟩
            rw [hcell i hi]
            have := hp.in_ i hi
            rw [Int.toNat_of_nonneg this.1]
          · exact walk2_no3 len cap b0 off _ _ x wa wb hp w (hlt (by omega)) hcell
      · exact walk2_no2 N _ _ wa wb A len cap hl w
    unfold gv at key
    rw [← ea 0 (by omega), ← ea 1 (by omega), ← ea 2 (by omega), ← ea 3 (by omega), ← ea 4 (by omega), ← eb 0 (by omega), ← eb 1 (by omega), ← eb 2 (by omega), ← eb 3 (by omega), ← eb 4 (by omega)] at key
    exact key
  · exact walk2_no1 na nb a b ha hb h A len cap w

set_option maxRecDepth 100000 in
theorem lifted2 (os : Os) (started : os.Started) (H : Type) (enc : TypeId × Value → H) :
    ReturnsInHanded {} Try.checked os 4 .any (Rows.topProductsMoveSpec.pre6 enc Try.prog Try.f4 Rows.topProductsMoveRow.domain false) (Rows.topProductsMoveSpec.post enc Try.prog Try.f4 false true false false) := by
  refine returnsInHanded_of_change (C := Try.checked) own started (by kernel_rfl) Try.func4
    (ChangeSpec.witness6 (enc := enc) (C := Try.checked) false ⟨#[], #[.agg #[.int .i64 0, .int .i64 0, .int .i64 0, .int .i64 0, .int .i64 0, .int .i64 0], .agg #[.int .i64 0, .int .i64 0, .int .i64 0, .int .i64 0, .int .i64 0, .int .i64 0], .slice none 0 0], []⟩ 8 (by kernel_rfl) (by kernel_rfl) (by kernel_rfl) (by kernel_rfl)) ?_
  intro W base args ds gs before hval0 hW hcnd _
  have hval : ∀ (j : Nat) t v, Try.f4.params[j]? = some t → args[j]? = some v → Value.okWide Try.prog W .any base t v := hval0
  have hW' := hW
  obtain ⟨p, q, hA0, hV, rfl, hfz, hnd⟩ := hW
  have hA : DataW.TrodAll enc Try.prog W 0 (fun _ => true) true Try.f4.params.toList args.toList ds p := hA0
  rw [Try.params4] at hA hval
  obtain ⟨v0, vs0, d0, ds0, p0, q0, hargs, rfl, rfl, h0, r0⟩ := trodAll_cons hA
  obtain ⟨v1, vs1, d1, ds1, p1, q1, rfl, rfl, rfl, h1, r1⟩ := trodAll_cons r0
  obtain ⟨v2, vs2, d2, ds2, p2, q2, rfl, rfl, rfl, h2, r2⟩ := trodAll_cons r1
  obtain ⟨rfl, rfl, rfl⟩ := trodAll_nil r2
  obtain rfl : args = #[v0, v1, v2] := by cases args; simp_all
  obtain ⟨rfl, rfl⟩ := trodVars_none hV
  have k0 := h0
  have k1 := h1
  have k2 := h2
  have lt0 : ∀ x ∈ p0, x.block < W.heap.size := by obtain ⟨m, hm⟩ := k0; exact DataW.trod_lt m _ _ _ hm
  have lt1 : ∀ x ∈ p1, x.block < W.heap.size := by obtain ⟨m, hm⟩ := k1; exact DataW.trod_lt m _ _ _ hm
  have lt2 : ∀ x ∈ p2, x.block < W.heap.size := by obtain ⟨m, hm⟩ := k2; exact DataW.trod_lt m _ _ _ hm
  obtain ⟨na, a0, a1, a2, a3, a4, rfl, _, wa0, wa1, wa2, wa3, wa4⟩ := open_graph (hval 0 _ v0 rfl rfl) h0
  obtain ⟨nb, b0, b1, b2, b3, b4, rfl, _, wb0, wb1, wb2, wb3, wb4⟩ := open_graph (hval 1 _ v1 rfl rfl) h1
  obtain ⟨A, len, cap, rfl⟩ := okWide_slice Try.underlying33 (hval 2 _ v2 rfl rfl)
  obtain ⟨x, hx⟩ : ∃ x, IsInts W A len cap x := by
    obtain ⟨fuel, hf⟩ := h2
    rcases open_ints Try.underlying33 Try.underlying3 (by kernel_rfl) hf with ⟨hcs, _⟩ | ⟨y, l, c, zs, hcs, _, hl, hm, hz, _, hcell, hwz⟩
    · simp [Value.cells] at hcs
      obtain ⟨rfl, rfl, rfl⟩ := hcs
      exact ⟨fun _ => 0, .inl ⟨rfl, rfl⟩⟩
    · simp [Value.cells] at hcs
      obtain ⟨rfl, rfl, rfl⟩ := hcs
      obtain ⟨yb, yo, ys⟩ := y
      have hzl : zs.length = cap := by simpa using hz
      refine ⟨fun i => zs.getD i 0, .inr ⟨yb, yo, ys, rfl, hl, fun h => ?_, fun h => ?_, fun i hi => ?_⟩⟩
      · have hc := hcell 0 (by omega)
        simpa [Addr.add] using World.cell?_spot hc
      · have hc := hcell 0 (by omega)
        rcases Nat.lt_or_ge yb W.heap.size with h' | h'
        · exact h'
        · simp [World.cell?, Addr.add, Array.getElem?_eq_none h'] at hc
      · have hc := hcell i (by omega)
        have hs : ys = none := by simpa [Addr.add] using World.cell?_spot (hcell 0 (by omega))
        subst hs
        have ha : (⟨yb, yo, none⟩ : Addr).add i = ⟨yb, yo + i, none⟩ := by unfold Addr.add; by_cases h : i = 0 <;> simp [h]
        rw [ha] at hc
        exact hc
  clear hA0 hval0
  refine (walk2_any na nb _ _ (rng_list wa0 wa1 wa2 wa3 wa4) (rng_list wb0 wb1 wb2 wb3 wb4) A len cap x W hx).mono fun e W' ⟨he, bel⟩ => ?_
  subst he
  exact ⟨_, rfl, _, _, _, [], _, [], hW', trodAll_mk1 (shut_bool Try.underlying4 _), (trodAll_cons_mk (Below.trod laidOut (by kernel_rfl) (of_decide_eq_true (by kernel_rfl)) k0 bel lt0) (trodAll_cons_mk (Below.trod laidOut (by kernel_rfl) (of_decide_eq_true (by kernel_rfl)) k1 bel lt1) (trodAll_cons_mk (Below.trod laidOut (by kernel_rfl) (of_decide_eq_true (by kernel_rfl)) k2 bel lt2) trodAll_mk0))), rfl, bel.frame _, fun h => by cases h⟩

theorem over2 : Rows.topProductsMoveRow.holds Try.pinned (OpenSpec.ofChange Rows.topProductsMoveSpec) :=
  OpenClaim.holds_of_wide 4 Try.f4 rfl rfl rfl rfl rfl rfl rfl ⟨rfl, rfl, rfl, rfl, rfl⟩ rfl rfl rfl rfl rfl (by kernel_rfl) Try.func4 (by kernel_rfl)
    (of_decide_eq_true (by kernel_rfl)) (by unfold Func.isWrapper; first | (rw [if_pos (by decide +kernel)]; kernel_rfl) | (rw [if_neg (by decide +kernel)]; exact ⟨rfl, rfl⟩))
    (fun os started H enc _ => lifted2 os started H enc)

/-- The given statement. -/
theorem topProductsMove_holds : Rows.TopProductsMoveSaid := over2
#print axioms topProductsMove_holds
end Go.Proofs.Ytabjmaoniicjeaa
