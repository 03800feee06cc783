/- TopGraphsOrdered: for all graphs a, b and c, well-formed or not, the call returns true, and all arguments read as before. No further condition. -/
import Derived.Test.YtabjmaoniicjeaaGrB
import Derived.Test.YtabjmaoniicjeaaGrA
import Derived.Test.YtabjmaoniicjeaaGrC
import Derived.Test.YtabjmaoniicjeaaGrD
import Derived.Test.YtabjmaoniicjeaaGrE
import Derived.Test.YtabjmaoniicjeaaGrF
import Derived.Test.YtabjmaoniicjeaaGrG
import Derived.Test.YtabjmaoniicjeaaGrJ
import Derived.Test.YtabjmaoniicjeaaGrL
import Derived.Test.YtabjmaoniicjeaaGrP
import Derived.Test.YtabjmaoniicjeaaGrO
import Derived.Test.YtabjmaoniicjeaaGrN
import Derived.Deep.RegionWith
import Derived.Test.YtabjmaoniicjeaaGrM
import Derived.WalkKit
import Derived.WalkSpells
import Derived.WalkLawsBesides
import Derived.Handy
import Derived.Deep.QuietTactic
import Derived.BigQuiet
import Derived.Outline
import Derived.Laws.BitsAllLaws
import Derived.IntWalk
import Derived.Lib.SmallJoins
import Derived.Lib.Hide
namespace Go.Proofs.Ytabjmaoniicjeaa
open Go.RowKit






open Go.ChangeShapes Go.WideShapes Go.ChangeAt

theorem graphs_no (na nb nc : Int) (a b c : Nat → Int) (ha : Rng a) (hb : Rng b) (hc : Rng c) (hno : ¬ AllOk na nb nc a b c) (g : Nat) (w : World) (hg : g < w.heap.size)
    (hG : ∀ i, w.cell? ⟨g, i, none⟩ = (#[.int .i64 na, .int .i64 (a 0), .int .i64 (a 1), .int .i64 (a 2), .int .i64 (a 3), .int .i64 (a 4), .int .i64 nb, .int .i64 (b 0), .int .i64 (b 1), .int .i64 (b 2), .int .i64 (b 3), .int .i64 (b 4), .int .i64 nc, .int .i64 (c 0), .int .i64 (c 1), .int .i64 (c 2), .int .i64 (c 3), .int .i64 (c 4)] : Array Value)[i]?) :
    Calls Try.prog 6 #[.slice (some ⟨g, 0, none⟩) 3 3] w fun e w' => e = .returned (.bool false) ∧ Below w.heap.size w w' :=
  (graphs_any na nb nc a b c ha hb hc g w hg hG).mono fun e w' ⟨r, he, hr, hB⟩ => ⟨by cases r with | false => exact he | true => exact absurd (hr.1 rfl) hno, hB⟩

set_option maxRecDepth 100000 in
set_option maxHeartbeats 1000000 in
theorem walk_no (na nb nc : Int) (a b c : Nat → Int) (ha : Rng a) (hb : Rng b) (hc : Rng c) (hno : ¬ AllOk na nb nc a b c) (w : World) :
    Calls Try.prog 3 #[.agg #[.int .i64 na, .int .i64 (a 0), .int .i64 (a 1), .int .i64 (a 2), .int .i64 (a 3), .int .i64 (a 4)], .agg #[.int .i64 nb, .int .i64 (b 0), .int .i64 (b 1), .int .i64 (b 2), .int .i64 (b 3), .int .i64 (b 4)], .agg #[.int .i64 nc, .int .i64 (c 0), .int .i64 (c 1), .int .i64 (c 2), .int .i64 (c 3), .int .i64 (c 4)]] w fun e w' => e = .returned (.bool true) ∧ Below w.heap.size w w' := by
  have Ha := Lib.hid ha
  have Hb := Lib.hid hb
  have Hc := Lib.hid hc
  have Hno := Lib.hid hno
  clear ha hb hc hno
  go_enter Try.func3, Try.ntmps3
  go_wp2_with fail
  refine (awake_c _).mono ?_
  rintro e w1 ⟨rfl, hb1⟩
  have B0 : Below w.heap.size w (((w.alloc (.cells #[.int .i64 na, .int .i64 (a 0), .int .i64 (a 1), .int .i64 (a 2), .int .i64 (a 3), .int .i64 (a 4)] 24)).alloc (.cells #[.int .i64 nb, .int .i64 (b 0), .int .i64 (b 1), .int .i64 (b 2), .int .i64 (b 3), .int .i64 (b 4)] 24)).alloc (.cells #[.int .i64 nc, .int .i64 (c 0), .int .i64 (c 1), .int .i64 (c 2), .int .i64 (c 3), .int .i64 (c 4)] 24)) := (((Below.refl _ _).alloc (Nat.le_refl _) _).alloc (by simp) _).alloc (by simp; omega) _
  have Ga : G6 w1 w.heap.size #[.int .i64 na, .int .i64 (a 0), .int .i64 (a 1), .int .i64 (a 2), .int .i64 (a 3), .int .i64 (a 4)] := ((((G6.new w _ 24).alloc _).alloc _).below hb1)
  have Gb : G6 w1 (w.heap.size + 1) #[.int .i64 nb, .int .i64 (b 0), .int .i64 (b 1), .int .i64 (b 2), .int .i64 (b 3), .int .i64 (b 4)] := (((G6.at_ (by simp) _ 24).alloc _).below hb1)
  have Gc : G6 w1 (w.heap.size + 1 + 1) #[.int .i64 nc, .int .i64 (c 0), .int .i64 (c 1), .int .i64 (c 2), .int .i64 (c 3), .int .i64 (c 4)] := ((G6.at_ (by simp) _ 24).below hb1)
  have B1 := B0.trans (Joins.below_le hb1 (by simp; omega))
  clear B0 hb1
  have qa := Ga.lt
  have fa0 := Ga.cell 0
  have fa1 := Ga.cell 1
  have fa2 := Ga.cell 2
  have fa3 := Ga.cell 3
  have fa4 := Ga.cell 4
  have fa5 := Ga.cell 5
  simp at fa0 fa1 fa2 fa3 fa4 fa5
  have qb := Gb.lt
  have fb0 := Gb.cell 0
  have fb1 := Gb.cell 1
  have fb2 := Gb.cell 2
  have fb3 := Gb.cell 3
  have fb4 := Gb.cell 4
  have fb5 := Gb.cell 5
  simp at fb0 fb1 fb2 fb3 fb4 fb5
  have qc := Gc.lt
  have fc0 := Gc.cell 0
  have fc1 := Gc.cell 1
  have fc2 := Gc.cell 2
  have fc3 := Gc.cell 3
  have fc4 := Gc.cell 4
  have fc5 := Gc.cell 5
  simp at fc0 fc1 fc2 fc3 fc4 fc5
  go_wp2_with fail
  refine (graphs_no na nb nc a b c Ha.out Hb.out Hc.out Hno.out w1.heap.size _ (by simp) (fun i => World.cell?_alloc_mark w1 _ _ (0, 0) i)).mono ?_
  rintro e w2 ⟨rfl, hb2⟩
  go_wp2_with fail
  go_ret
  exact ⟨rfl, B1.trans (Joins.below_le (fresh_below hb2) B1.size)⟩

theorem wf_of {N : Nat} {x : Nat → Int} (h : WFI (N : Int) x) : WF N (fun p => (x p).toNat) ∧ ∀ p, p < 5 → x p = (((x p).toNat : Nat) : Int) := by
  have hr : ∀ p, p < 5 → okRow N p (x p) := fun p hp => h.2 p hp
  have hn := h.1
  refine ⟨⟨by omega, fun p hp => ?_, fun p hp h5 => ?_⟩, fun p hp => ?_⟩
  · have := hr p (by omega)
    unfold okRow at this
    rw [if_pos hp] at this
    exact ⟨by show (x p).toNat < 2 ^ N; omega, this.2.2⟩
  · have := hr p h5
    unfold okRow at this
    rw [if_neg (by omega)] at this
    show (x p).toNat = 0
    rw [this]; rfl
  · have := hr p hp
    unfold okRow at this
    by_cases hpn : p < N
    · rw [if_pos hpn] at this; omega
    · rw [if_neg hpn] at this; omega

theorem walk_any (na nb nc : Int) (a b c : Nat → Int) (ha : Rng a) (hb : Rng b) (hc : Rng c) (w : World) :
    Calls Try.prog 3 #[.agg #[.int .i64 na, .int .i64 (a 0), .int .i64 (a 1), .int .i64 (a 2), .int .i64 (a 3), .int .i64 (a 4)], .agg #[.int .i64 nb, .int .i64 (b 0), .int .i64 (b 1), .int .i64 (b 2), .int .i64 (b 3), .int .i64 (b 4)], .agg #[.int .i64 nc, .int .i64 (c 0), .int .i64 (c 1), .int .i64 (c 2), .int .i64 (c 3), .int .i64 (c 4)]] w fun e w' => e = .returned (.bool true) ∧ Below w.heap.size w w' := by
  by_cases h : AllOk na nb nc a b c
  · obtain ⟨ka, kb, kc, rfl, rfl⟩ := h
    obtain ⟨N, rfl⟩ := Int.eq_ofNat_of_zero_le (show 0 ≤ nc by have := ka.1; omega)
    obtain ⟨wa, ea⟩ := wf_of ka
    obtain ⟨wb, eb⟩ := wf_of kb
    obtain ⟨wc, ec⟩ := wf_of kc
    have := walk_yes N _ _ _ wa wb wc w
    unfold gv at this
    rw [← ea 0 (by omega), ← ea 1 (by omega), ← ea 2 (by omega), ← ea 3 (by omega), ← ea 4 (by omega), ← eb 0 (by omega), ← eb 1 (by omega), ← eb 2 (by omega), ← eb 3 (by omega), ← eb 4 (by omega),
      ← ec 0 (by omega), ← ec 1 (by omega), ← ec 2 (by omega), ← ec 3 (by omega), ← ec 4 (by omega)] at this
    exact this
  · exact walk_no na nb nc a b c ha hb hc h w

theorem rng_list {x0 x1 x2 x3 x4 : Int} (h0 : (Lit.int .i64 x0).wf = true) (h1 : (Lit.int .i64 x1).wf = true) (h2 : (Lit.int .i64 x2).wf = true) (h3 : (Lit.int .i64 x3).wf = true) (h4 : (Lit.int .i64 x4).wf = true) :
    Rng (fun p => ([x0, x1, x2, x3, x4] : List Int).getD p 0) := by
  have hw : ∀ x : Int, (Lit.int .i64 x).wf = true → -9223372036854775808 ≤ x ∧ x ≤ 9223372036854775807 := fun x hx => bounds_i64 hx
  intro p hp
  obtain rfl | rfl | rfl | rfl | rfl : p = 0 ∨ p = 1 ∨ p = 2 ∨ p = 3 ∨ p = 4 := by omega
  · exact hw _ h0
  · exact hw _ h1
  · exact hw _ h2
  · exact hw _ h3
  · exact hw _ h4

set_option maxRecDepth 100000 in
theorem lifted (os : Os) (started : os.Started) (H : Type) (enc : TypeId × Value → H) :
    ReturnsInHanded {} Try.checked os 3 .any (Rows.topGraphsOrderedSpec.pre6 enc Try.prog Try.f3 Rows.topGraphsOrderedRow.domain false) (Rows.topGraphsOrderedSpec.post enc Try.prog Try.f3 false true false false) := by
  refine returnsInHanded_of_change (C := Try.checked) own started (by kernel_rfl) Try.func3
    (ChangeSpec.witness6 (enc := enc) (C := Try.checked) false ⟨#[], #[.agg #[.int .i64 0, .int .i64 0, .int .i64 0, .int .i64 0, .int .i64 0, .int .i64 0], .agg #[.int .i64 0, .int .i64 0, .int .i64 0, .int .i64 0, .int .i64 0, .int .i64 0], .agg #[.int .i64 0, .int .i64 0, .int .i64 0, .int .i64 0, .int .i64 0, .int .i64 0]], []⟩ 8 (by kernel_rfl) (by kernel_rfl) (by kernel_rfl) (by kernel_rfl)) ?_
  intro W base args ds gs before hval0 hW hcnd _
  have hval : ∀ (j : Nat) t v, Try.f3.params[j]? = some t → args[j]? = some v → Value.okWide Try.prog W .any base t v := hval0
  have hW' := hW
  obtain ⟨p, q, hA0, hV, rfl, hfz, hnd⟩ := hW
  have hA : DataW.TrodAll enc Try.prog W 0 (fun _ => true) true Try.f3.params.toList args.toList ds p := hA0
  rw [Try.params3] at hA hval
  obtain ⟨v0, vs0, d0, ds0, p0, q0, hargs, rfl, rfl, h0, r0⟩ := trodAll_cons hA
  obtain ⟨v1, vs1, d1, ds1, p1, q1, rfl, rfl, rfl, h1, r1⟩ := trodAll_cons r0
  obtain ⟨v2, vs2, d2, ds2, p2, q2, rfl, rfl, rfl, h2, r2⟩ := trodAll_cons r1
  obtain ⟨rfl, rfl, rfl⟩ := trodAll_nil r2
  obtain rfl : args = #[v0, v1, v2] := by cases args; simp_all
  obtain ⟨rfl, rfl⟩ := trodVars_none hV
  have k0 := h0
  have k1 := h1
  have k2 := h2
  have lt0 : ∀ x ∈ p0, x.block < W.heap.size := by obtain ⟨m, hm⟩ := k0; exact DataW.trod_lt m _ _ _ hm
  have lt1 : ∀ x ∈ p1, x.block < W.heap.size := by obtain ⟨m, hm⟩ := k1; exact DataW.trod_lt m _ _ _ hm
  have lt2 : ∀ x ∈ p2, x.block < W.heap.size := by obtain ⟨m, hm⟩ := k2; exact DataW.trod_lt m _ _ _ hm
  obtain ⟨na, a0, a1, a2, a3, a4, rfl, _, wa0, wa1, wa2, wa3, wa4⟩ := open_graph (hval 0 _ v0 rfl rfl) h0
  obtain ⟨nb, b0, b1, b2, b3, b4, rfl, _, wb0, wb1, wb2, wb3, wb4⟩ := open_graph (hval 1 _ v1 rfl rfl) h1
  obtain ⟨nc, c0, c1, c2, c3, c4, rfl, _, wc0, wc1, wc2, wc3, wc4⟩ := open_graph (hval 2 _ v2 rfl rfl) h2
  clear hA0 hval0
  refine (walk_any na nb nc _ _ _ (rng_list wa0 wa1 wa2 wa3 wa4) (rng_list wb0 wb1 wb2 wb3 wb4) (rng_list wc0 wc1 wc2 wc3 wc4) W).mono fun e W' ⟨he, bel⟩ => ?_
  subst he
  exact ⟨_, rfl, _, _, _, [], _, [], hW', trodAll_mk1 (shut_bool Try.underlying4 _), (trodAll_cons_mk (Below.trod laidOut (by kernel_rfl) (of_decide_eq_true (by kernel_rfl)) k0 bel lt0) (trodAll_cons_mk (Below.trod laidOut (by kernel_rfl) (of_decide_eq_true (by kernel_rfl)) k1 bel lt1) (trodAll_cons_mk (Below.trod laidOut (by kernel_rfl) (of_decide_eq_true (by kernel_rfl)) k2 bel lt2) trodAll_mk0))), rfl, bel.frame _, fun h => by cases h⟩

theorem over : Rows.topGraphsOrderedRow.holds Try.pinned (OpenSpec.ofChange Rows.topGraphsOrderedSpec) :=
  OpenClaim.holds_of_wide 3 Try.f3 rfl rfl rfl rfl rfl rfl rfl ⟨rfl, rfl, rfl, rfl, rfl⟩ rfl rfl rfl rfl rfl (by kernel_rfl) Try.func3 (by kernel_rfl)
    (of_decide_eq_true (by kernel_rfl)) (by unfold Func.isWrapper; first | (rw [if_pos (by decide +kernel)]; kernel_rfl) | (rw [if_neg (by decide +kernel)]; exact ⟨rfl, rfl⟩))
    (fun os started H enc _ => lifted os started H enc)

/-- The given statement. -/
theorem topGraphsOrdered_holds : Rows.TopGraphsOrderedSaid := over
#print axioms topGraphsOrdered_holds
end Go.Proofs.Ytabjmaoniicjeaa
