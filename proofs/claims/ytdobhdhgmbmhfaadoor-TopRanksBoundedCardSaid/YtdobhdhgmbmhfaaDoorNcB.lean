/- Multiply of the package. -/
import Derived.Test.YtdobhdhgmbmhfaaDoorMxO
import Derived.Test.YtdobhdhgmbmhfaaDoorNcA
import Derived.WalkKit
import Derived.WalkSpells
import Derived.WalkLawsBesides
import Derived.Handy
import Derived.Deep.QuietTactic
import Derived.BigQuiet
import Derived.Outline
import Derived.Laws.BitsAllLaws
import Derived.IntWalk
import Derived.Lib.SmallJoins
import Derived.Lib.Hide
import Derived.Deep.DeepCutAuto
import Derived.LoopTactic
import Derived.Deep.RegionWith
import Derived.Laws.CopyOwn
import Derived.Maps.OwnOps
import Derived.Maps.OwnSet
import Derived.Laws.OwnMore
import Derived.Maps.AppendAt
import Derived.RangeFuncNested
import Derived.RangeFuncBound
import Derived.RangeFuncCalls
import Derived.RangeFuncLeaves
import Derived.RangeFuncBox
import Derived.RangeFuncFrom
import Derived.Shelf.Abstract
import Derived.Shelf.RegionOpen
import Derived.OwnWalkIn
import Derived.TacticsInMore
import Derived.LoopNIn
import Derived.LoopIn
import Derived.Deep.RegionHeld3
import Derived.RegionTactic
import Derived.ChangeAlike
namespace Go.Proofs.YtdobhdhgmbmhfaaDoor
set_option linter.unusedVariables false
set_option linter.unusedSimpArgs false
open Go.RowKit

attribute [local go_sem] Oper.semAt_some
section
variable {F : Fence} {n : Nat} {P : Program}
/-- A range over a function value: the record that it lays, the call that it makes. -/
theorem range_call {g : Operand} {ps : Array Tmp} {assign body : Code} {Q : Exit → Act → World → Prop} {a : Act} {w : World} (hro : F.round = none) (h1 : 1 ≤ n) {gf : Nat} {lb : Array Value} (hg : a.eval g = .func (.func gf) #[] lb) (hFg : F.fn gf) (eg : ∀ args w, (callFunc gf args).run P w = .ok (.enter gf args) w)
    (hcall : ∀ (r : Loop), F.fn r.fn → r = { state := .ready, pending := none, fn := r.fn, tmps := a.tmps, params := ps, assign, body, defers := w.heap.size } → CallsIn F (n - 1) P gf (#[.func (.yield (w.heap.size + 1)) #[] #[]] ++ lb) ((w.alloc (.deferred (some []))).alloc (.loop r)) (rangePost F n P (w.heap.size + 1) Q { a with defers := { target := .collected w.heap.size, args := #[] } :: a.defers })) :
    (Code.rangeFunc g ps assign body).wpIn F n P Q a w := by
  refine wpIn_rangeFunc ?_
  intro fn hfn
  rw [hro]
  refine ⟨w.heap.size + 1, [{ target := .collected w.heap.size, args := #[] }], _, { target := .fn (.func gf) lb, args := #[.func (.yield (w.heap.size + 1)) #[] #[]] }, (w.alloc (.deferred (some []))).alloc (.loop { state := .ready, pending := none, fn, tmps := a.tmps, params := ps, assign, body, defers := w.heap.size }), gf, #[.func (.yield (w.heap.size + 1)) #[] #[]] ++ lb, (w.alloc (.deferred (some []))).alloc (.loop { state := .ready, pending := none, fn, tmps := a.tmps, params := ps, assign, body, defers := w.heap.size }), run_enterLoop_outer _ _ _ _ _, ?_, ?_, ?_, fun _ => h1, ?_⟩
  · simp only [resolve, hg]
    simp [go_sem]
  · intro f' hf'; simp [Target.leads] at hf'; subst hf'; exact hFg
  · simp [invoke, go_sem, eg]
  · exact hcall { state := .ready, pending := none, fn, tmps := a.tmps, params := ps, assign, body, defers := w.heap.size } hfn rfl
/-- One round whose body goes on. -/
theorem yield_on {l : Nat} {args : Array Value} {W : World} {r rb : Loop} (hrb : { r with state := .busy } = rb) {R : World → Prop} (hl : W.heap[l]? = some (.loop r)) (hst : r.state = .ready) (hpe : r.pending = none) (hs : args.size = r.params.size) (hfn : F.fn r.fn)
    (h : r.assign.wpIn (F.inRound l) n P (Exit.then (fun a₁ w₁ => w₁ = W ∧ r.body.wpIn (F.inRound l) n P (fun e _ W3 => e = .normal ∧ W3.heap[l]? = some (.loop rb) ∧ R (W3.putObj l (.loop r))) a₁ (W.putObj l (.loop rb))) (fun _ _ _ => False)) { tmps := (r.params.zip args).foldl (fun tmps (t, a) => tmps.setIfInBounds t a) r.tmps, defers := [] } W) :
    YieldAt F n P l args W fun e W' => e = .returned (.bool true) ∧ R W' := by
  subst hrb
  refine ⟨r.fn, _, r.assign, r.body, run_yield hl hs, roundIn_of_wpIn hfn (wpIn_mono h ?_)⟩
  intro e a1 W1 h1
  cases e with
  | normal =>
    obtain ⟨rfl, hb⟩ := h1
    refine ⟨_, run_beginRound hl hst, wpIn_mono hb ?_⟩
    rintro e a3 W3 ⟨rfl, hl3, hR⟩
    refine ⟨_, _, run_endRound none hl3, rfl, ?_⟩
    have e1 : ({ ({ r with state := .busy } : Loop) with state := if (none : Option Code).isNone then .ready else .done, pending := none } : Loop) = r := by
      cases r; simp at hst hpe; subst hst; subst hpe; rfl
    rw [e1]
    exact hR
  | ret => exact h1.elim
  | exit id => exact h1.elim
  | goto t => exact h1.elim
  | panic ch => exact h1.elim
  | outgrown => exact h1.elim
end

/-- A row of the call's own is appended to a row of rows, in a plain region, inside a fence. -/
theorem wl_app_in {F : Fence} {n : Nat} {ops : Array Oper} {rest : List Oper} {o : Oper} {a : Act} {Q : Exit → Act → World → Prop} (w : World) (hgd : o.guard = none) (s x : Operand)
    (ho : o.op = .call { callee := .builtin .append, args := #[s, x], argTypes := #[22, 22] })
    (R : Nat) (v : Value) (k : Nat) (vs : List Value) (L : Nat → List Int) (u : Value) (b : Nat) (hs : a.eval s = v) (h : Rws w R v k vs L) (hu : Row w R u (L k)) (hux : u.ownBlock = none ∨ u.ownBlock ≠ v.ownBlock)
    (hx : a.eval x = .slice (some ⟨b, 0, none⟩) 1 1) (hc : w.cell? ⟨b, 0, none⟩ = some u) (hk : k ≤ 1000000) (hR : R ≤ w.heap.size)
    (hn : ∀ g cap w', Rws w' R (.slice (some ⟨g, 0, none⟩) (k + 1) cap) (k + 1) (vs ++ [u]) L → Below R w w' → w.heap.size ≤ w'.heap.size → wpListIn F n Tryd.prog ops Q rest (a.put o.dst (.slice (some ⟨g, 0, none⟩) (k + 1) cap)) w') :
    wpListIn F n Tryd.prog ops Q (o :: rest) a w := by
  obtain ⟨i0, hi, hz0, hz1, hz2⟩ := info_parts infoL
  refine wpListIn_plain hgd fun K hK => ?_
  obtain ⟨g, cap, w', hr, hown, hgrow, hat, hlt⟩ := run_append_lies (P := Tryd.prog) w 22 o.type R 25 i0 (.slice none 0 0) 1 24 Tryd.underlying22 hi hz0 hz1 hz2 rfl (by decide) v k vs h.own ⟨b, 0, none⟩ 1 1 [u] rfl (by
    intro j y hy
    match j, hy with
    | 0, hy => simp at hy; subst hy; exact hc
    | j + 1, hy => simp at hy) (by intro y hy; simp at hy; rw [hy]; exact hu.one) (by decide) (by unfold maxLen; omega) (by omega) hR _ rfl
  unfold Oper.wpIn
  refine ⟨by simp [Oper.about, ho, resolve, Target.leads, Sem.run_pure], ?_⟩
  rw [Oper.semAt_plain F _ _ (by rw [ho]; intro c hc'; cases hc')]
  simp [execOp, ho, resolve, invoke, builtin, hs, hx, hr, Result.andThen]
  refine hK _ _ (hn g cap w' (h.step hu hux hown hgrow ?_) ((Below.refl _ _).grown hgrow hR ?_) hgrow.size)
  · rcases hat with e | e
    · left; rw [e]; rfl
    · right; rw [← e]; rfl
  · intro j hj
    rcases own_cases h.own with ⟨rfl, _⟩ | ⟨g', cap', rfl, hR', _⟩
    · exact absurd hj (by simp [Value.ownBlock])
    · have : g' = j := by simpa [Value.ownBlock] using hj
      omega
theorem Rws.keep {w w' : World} {R k : Nat} {v : Value} {vs : List Value} {L : Nat → List Int} (h : Rws w R v k vs L) (hk : ∀ j, R ≤ j → j < w.heap.size → w'.heap[j]? = w.heap[j]?) : Rws w' R v k vs L :=
  ⟨own_keep h.own hk, fun c hc => by
    obtain ⟨u, h1, h2, h3⟩ := h.rows c hc
    exact ⟨u, h1, own_keep h2 hk, h3⟩⟩
set_option maxRecDepth 100000 in
set_option maxHeartbeats 4000000 in
theorem mul_good (C D K : Nat) (hC : C ≤ 31) (hD : D ≤ 31) (hK : K ≤ 31) (a b : Nat → Nat) (hb : ∀ i, i < C → b i < 2 ^ D) (o p : Option Addr) (cap cap' : Nat) (w : World) (hT : Tb w) (hM : Mx w o K C a) (hM' : Mx w p C D b) (hck : ∀ W, Below w.heap.size w W → Calls Tryd.prog 30 #[mv (C : Int) o K cap, mv (D : Int) p C cap'] W fun e w' => e = .returned (.int .i64 0) ∧ Below W.heap.size W w') :
    Calls Tryd.prog 16 #[mv (C : Int) o K cap, mv (D : Int) p C cap'] w fun e w' => ∃ o' cap', e = .returned (.tuple #[.agg #[.int .i64 (D : Int), .slice o' K cap'], .int .i64 0]) ∧ Mx w' o' K D (mulr C a b) ∧ Below w.heap.size w w' := by
  refine (callsIn_wide (n := 4)).1 ?_
  obtain ⟨f1, f2, f4, f3⟩ := w3_facts w (C : Int) o K cap (D : Int) p C cap'
  obtain ⟨S, hS⟩ : ∃ n, w.heap.size = n := ⟨_, rfl⟩
  have H := Lib.hid (hck _ f1)
  have HB := Lib.hid f1
  have HA := Lib.hid f2
  have HC := Lib.hid f4
  have HR := Lib.hid f3
  have HM := Lib.hid hM
  have HM' := Lib.hid hM'
  have HT := Lib.hid hT
  have Hb := Lib.hid hb
  unfold mv at H ⊢
  clear hM hM' hck f1 f2 f3 f4 hT hb
  refine callsIn_of_wp_marks Tryd.func16 rfl trivial ?_ rfl
  simp only [Tryd.ntmps16, List.size_toArray, List.length_cons, List.length_nil, Nat.reduceAdd, Nat.reduceSub, Array.replicate_succ, Array.replicate_zero, List.push_toArray, List.append_toArray, List.nil_append, List.cons_append]
  gi_wp2_with (first
    | (refine ⟨trivial, ?_⟩; gi_at_call 30; refine (callsIn_wide.2 H.out).mono ?_; rintro e W1 ⟨rfl, hb1⟩; have hr1 := HR.out.below hb1 HR.out.lt; have ha1 := HA.out.below hb1 HA.out.lt; have hc1 := HC.out.below hb1 HC.out.lt; rw [hS] at hr1 ha1 hc1; have q0 := ha1.cell 0; have q1 := ha1.cell 1; have q2 := hc1.cell 0; have q3 := hc1.cell 1; have q4 := fun ob => (ha1.alloc ob).cell 0; have q5 := fun ob => (ha1.alloc ob).cell 1; have q6 := fun ob => (hc1.alloc ob).cell 0; have q7 := fun ob => (hc1.alloc ob).cell 1; have HB1 := Lib.hid (HB.out.trans (Joins.below_le hb1 HB.out.size)); have HR1 := Lib.hid hr1; clear hb1 hr1 ha1 hc1)
    | (refine ⟨trivial, ?_⟩; gi_at_call 31; refine (products_in _ _ _ _ _ _ _ _ _ _).mono ?_; rintro e w' ⟨rfl, rfl⟩))
  clear q0 q1 q2 q3 q4 q5 q6 q7 H
  have hlt1 : S + 1 + 1 < W1.heap.size := HR1.out.lt
  obtain ⟨Wc, hWc⟩ : ∃ Wc, ((W1.alloc (.cells #[.int .i64 (D : Int), .slice none 0 0] 24)).alloc (.cells #[.int .i64 (C : Int), .slice o K cap] 24)).alloc (.cells #[.int .i64 (D : Int), .slice p C cap'] 24) = Wc := ⟨_, rfl⟩
  rw [hWc]
  obtain ⟨X, hX⟩ : ∃ n, W1.heap.size = n := ⟨_, rfl⟩
  have hsz : Wc.heap.size = X + 3 := by rw [← hWc, ← hX]; simp
  have bO : Box Wc X #[.int .i64 (D : Int), .slice none 0 0] 24 := by rw [← hWc, ← hX]; exact ((Box.new W1 _ _).alloc _).alloc _
  have bA : Box Wc (X + 1) #[.int .i64 (C : Int), .slice o K cap] 24 := by
    have h := (Box.new (W1.alloc (.cells #[.int .i64 (D : Int), .slice none 0 0] 24)) #[.int .i64 (C : Int), .slice o K cap] 24).alloc (.cells #[.int .i64 (D : Int), .slice p C cap'] 24)
    rwa [World.size_alloc, hWc, hX] at h
  have bB : Box Wc (X + 1 + 1) #[.int .i64 (D : Int), .slice p C cap'] 24 := by
    have h := Box.new ((W1.alloc (.cells #[.int .i64 (D : Int), .slice none 0 0] 24)).alloc (.cells #[.int .i64 (C : Int), .slice o K cap] 24)) #[.int .i64 (D : Int), .slice p C cap'] 24
    rwa [World.size_alloc, World.size_alloc, hWc, hX] at h
  have hb1 : Below W1.heap.size W1 Wc := by rw [← hWc]; exact (((Below.refl _ _).alloc (Nat.le_refl _) _).alloc (by simp) _).alloc (by simp; omega) _
  have hbw : Below w.heap.size w Wc := HB1.out.trans (Joins.below_le hb1 HB1.out.size)
  have bR : Box Wc (S + 1 + 1) #[.int .i64 0, .slice none 0 0] 24 := HR1.out.below hb1 hlt1
  rw [hX] at hlt1 ⊢
  have hwX : w.heap.size ≤ X := by rw [← hX]; exact HB1.out.size
  clear hWc hX hb1
  refine range_call rfl (by omega) (gf := 37) (lb := #[.pointer (some ⟨X + 1 + 1, 0, none⟩), .pointer (some ⟨X + 1, 0, none⟩)]) rfl trivial (fun args w => by kernel_rfl) ?_
  intro r hfn hr
  have hst : r.state = .ready := by rw [hr]
  have hpe : r.pending = none := by rw [hr]
  obtain ⟨W0, hW0⟩ : ∃ W0, (Wc.alloc (.deferred (some []))).alloc (.loop r) = W0 := ⟨_, rfl⟩
  rw [hW0, hsz]
  have hs0 : W0.heap.size = X + 5 := by rw [← hW0]; simp; omega
  have hb0 : Below Wc.heap.size Wc W0 := by rw [← hW0]; exact ((Below.refl _ _).alloc (Nat.le_refl _) _).alloc (by simp) _
  have hl0 : W0.heap[X + 3 + 1]? = some (.loop r) := by
    rw [← hW0]; have := World.alloc_heap_new (Wc.alloc (.deferred (some []))) (.loop r); rwa [World.size_alloc, hsz] at this
  have hd0 : W0.heap[X + 3]? = some (.deferred (some [])) := by
    rw [← hW0]; have := (Below.heap_alloc (Wc.alloc (.deferred (some []))) (.loop r) Wc.heap.size (by simp)).trans (World.alloc_heap_new Wc _); rwa [hsz] at this
  have hbe0 : Below w.heap.size w W0 := hbw.trans (Joins.below_le hb0 hbw.size)
  obtain ⟨L, hL⟩ : ∃ L : Nat → List Int, (fun c => ints (el D (mulr C a b c))) = L := ⟨_, rfl⟩
  have hLk : ∀ k, L k = ints (el D (mulr C a b k)) := fun k => by rw [← hL]
  refine CallsIn.mono (products1_in 3 (by omega) (X + 3 + 1) D K C hD hK hC a b Hb.out (X + 1) (X + 1 + 1) X o p cap cap' w W0 HT.out HM.out HM'.out hbe0 hwX (by omega) (by omega) (by omega) (bA.below hb0 bA.lt) (bB.below hb0 bB.lt) ⟨by omega, by omega, by omega, by omega⟩
    (fun k V => (∃ v vs, Box V X #[.int .i64 (D : Int), v] 24 ∧ Rws V (X + 6) v k vs L) ∧ V.heap[X + 3 + 1]? = some (.loop r) ∧ V.heap[X + 3]? = some (.deferred (some [])) ∧ X + 5 < V.heap.size)
    ?hJ ?hJ0 ?hY) ?done
  case hJ =>
    rintro k U V hU hk ⟨⟨v, vs, h1, h2⟩, h3, h4, h5⟩
    rw [hs0] at hk
    exact ⟨⟨v, vs, (hk.block X h1.lt (fun e => by have := Option.some.inj e; omega)).trans h1, h2.keep fun j hj hj2 => hk.block j hj2 (fun e => by have := Option.some.inj e; omega)⟩, (hk.block _ (by omega) (fun e => by have := Option.some.inj e; omega)).trans h3, (hk.block _ (by omega) (fun e => by have := Option.some.inj e; omega)).trans h4, Nat.lt_of_lt_of_le h5 hk.size⟩
  case hJ0 =>
    intro V hV hs
    exact ⟨⟨_, [], (bO.below hb0 bO.lt).below hV (by omega), Rws.nil _ _ _⟩, (hV.block _ (by omega)).trans hl0, (hV.block _ (by omega)).trans hd0, by omega⟩
  case hY =>
    rintro k u U W hk ⟨⟨v, vs, h1, h2⟩, h3, h4, h5⟩ hU ht hUW hrow
    rw [← hLk] at hrow
    obtain ⟨ou, cu, rfl, _⟩ := hrow.shape
    have ea := congrArg Loop.assign hr
    have eb := congrArg Loop.body hr
    have ep := congrArg Loop.params hr
    have et := congrArg Loop.tmps hr
    simp only at ea eb ep et
    obtain ⟨rb, hrb⟩ : ∃ rb : Loop, { r with state := .busy } = rb := ⟨_, rfl⟩
    have hlW : W.heap[X + 3 + 1]? = some (.loop r) := (hUW.block _ (by omega)).trans h3
    refine yield_on hrb hlW hst hpe (by rw [ep]; rfl) hfn ?_
    rw [ea, eb, ep, et]
    clear ea eb ep et
    have hsW : U.heap.size ≤ W.heap.size := hUW.size
    obtain ⟨Wb, hWb⟩ : ∃ Wb, W.putObj (X + 3 + 1) (.loop rb) = Wb := ⟨_, rfl⟩
    have oth : ∀ k, k ≠ X + 3 + 1 → Wb.heap[k]? = W.heap[k]? := fun k hk => by rw [← hWb]; exact World.putObj_heap_other hk
    have hl2 : Wb.heap[X + 3 + 1]? = some (.loop rb) := by rw [← hWb]; exact World.putObj_heap_same (by omega)
    have hsb : Wb.heap.size = W.heap.size := by rw [← hWb]; simp [World.putObj]
    have hux := h2.new hrow
    have b1 : Box Wb X #[.int .i64 (D : Int), v] 24 := (oth X (by omega)).trans ((hUW.block X (by omega)).trans h1)
    have r1 : Rws Wb (X + 6) v k vs L := (h2.keep fun j hj hj2 => hUW.block j hj2).keep fun j hj hj2 => oth j (by omega)
    have w1 : Row Wb (X + 6) (.slice ou (L k).length cu) (L k) := (hrow.le (by omega)).keep fun j hj hj2 => oth j (by omega)
    rw [hWb]
    have HWb := Lib.hid hWb
    have HOth := Lib.hid oth
    have HL2 := Lib.hid hl2
    have HSb := Lib.hid hsb
    have HB1 := Lib.hid b1
    have HR1 := Lib.hid r1
    have HW1 := Lib.hid w1
    have HUx := Lib.hid hux
    have HUW := Lib.hid hUW
    have H4 := Lib.hid h4
    have c1 := fun ob => (b1.alloc ob).cell 1
    have hsu : X + 6 ≤ Wb.heap.size := by omega
    obtain ⟨nk, hnk⟩ : ∃ n, (L k).length = n := ⟨_, rfl⟩
    rw [hnk] at HW1 HUx ⊢
    clear hrb hr h1 h2 h3 h4 hUW hrow hlW hWb oth hl2 hsb hux b1 r1 w1 bO bA bB bR hb0 hl0 hd0 hbe0 hnk HB HA HC HR HM HM' HT Hb
    have c0 := HB1.out.cell 1
    gi_wp2
    refine ⟨trivial, ?_⟩
    gi_wp2_with (gi_at_builtin; refine wl_app_in _ rfl _ _ rfl (X + 6) v k vs L _ Wb.heap.size rfl (HR1.out.below ((Below.refl _ _).alloc (Nat.le_refl _) _)) (HW1.out.below ((Below.refl _ _).alloc (Nat.le_refl _) _)) HUx.out rfl (news_one _ _ _) (by omega) (by simp; omega) ?_; intro g cg w2 hr2 hb2 hs2; have hx2 := (HB1.out.alloc _).below hb2 (by omega); have k1 := hx2.cell 1; have k2 := hx2.open_ 1; have HX2 := Lib.hid hx2; have HR2 := Lib.hid hr2; have HB2 := Lib.hid hb2; have HS2 := Lib.hid hs2; clear hx2 hr2 hb2 hs2)
    have o1 : ∀ j, j ≠ X + 3 + 1 → j ≠ X → j < X + 6 → j < Wb.heap.size → ((w2.setCell ⟨X, 1, none⟩ (.slice (some ⟨g, 0, none⟩) (k + 1) cg)).putObj (X + 3 + 1) (.loop r)).heap[j]? = W.heap[j]? := fun j h1 h2 h3 h4 =>
      (World.putObj_heap_other h1).trans ((Below.heap_setCell w2 ⟨X, 1, none⟩ _ _ (by show j ≠ X; exact h2)).trans ((HB2.out.block j h3).trans ((Below.heap_alloc Wb _ j h4).trans (HOth.out j h1))))
    have hsz2 : Wb.heap.size < w2.heap.size := by have := HS2.out; simp at this; omega
    have hsb := HSb.out
    have hl3 : (w2.setCell ⟨X, 1, none⟩ (.slice (some ⟨g, 0, none⟩) (k + 1) cg)).heap[X + 3 + 1]? = some (.loop rb) := (Below.heap_setCell w2 ⟨X, 1, none⟩ _ _ (by show X + 3 + 1 ≠ X; omega)).trans ((HB2.out.block _ (by omega)).trans ((Below.heap_alloc Wb _ _ (by omega)).trans HL2.out))
    refine ⟨hl3, ⟨⟨_, (World.putObj_heap_other (by omega)).trans (HX2.out.set 1 (.slice (some ⟨g, 0, none⟩) (k + 1) cg)), _, (HR2.out.set (by omega) _).keep fun j hj hj2 => World.putObj_heap_other (by omega)⟩, World.putObj_heap_same (by simp; omega), (o1 _ (by omega) (by omega) (by omega) (by omega)).trans ((HUW.out.block _ (by omega)).trans H4.out), by omega⟩, ⟨?_, ?_, ?_, by simp [World.putObj]; omega, fun j h0 h1 h2 h3 => o1 j h3 h2 (by omega) (by omega)⟩⟩
    · exact HB2.out.os.trans (by rw [← HWb.out]; rfl)
    · exact HB2.out.tape.trans (by rw [← HWb.out]; rfl)
    · exact HB2.out.output.trans (by rw [← HWb.out]; rfl)
  case done =>
    rintro e W2 ⟨⟨v, rfl⟩, ⟨⟨u, vs, j1, j2⟩, j3, j4, j5⟩, ht⟩
    have hend := run_endLoop (P := Tryd.prog) j3 (by rw [hst]; simp)
    obtain ⟨re, hre⟩ : ∃ re : Loop, { r with state := .exhausted } = re := ⟨_, rfl⟩
    rw [hre, hpe] at hend
    refine ⟨none, _, hend, ?_⟩
    have hput : ∀ k, k ≠ X + 3 + 1 → (W2.putObj (X + 3 + 1) (.loop re)).heap[k]? = W2.heap[k]? := fun k hk => World.putObj_heap_other hk
    have b4 : Box (W2.putObj (X + 3 + 1) (.loop re)) X #[.int .i64 (D : Int), u] 24 := (hput _ (by omega)).trans j1
    have r4 : Rws (W2.putObj (X + 3 + 1) (.loop re)) (X + 6) u K vs L := j2.keep fun j hj _ => hput j (by omega)
    have d4 := (hput (X + 3) (by omega)).trans j4
    have br4 : Box (W2.putObj (X + 3 + 1) (.loop re)) (S + 1 + 1) #[.int .i64 0, .slice none 0 0] 24 := (hput _ (by omega)).trans (ht.box (bR.below hb0 bR.lt) (by omega) (by omega) (by omega))
    have l4 : Below w.heap.size w (W2.putObj (X + 3 + 1) (.loop re)) := (T2.below hbe0 ht hwX (by omega) (by omega)).trans (belowK_b (w := w) (Nat.le_refl _) W2 _ _ _ (by omega) j3 rfl rfl)
    have hsz4 : (W2.putObj (X + 3 + 1) (.loop re)).heap.size = W2.heap.size := by simp [World.putObj]
    generalize W2.putObj (X + 3 + 1) (.loop re) = W4 at b4 r4 d4 br4 l4 hsz4 ⊢
    obtain ⟨ov, cv, rfl, _⟩ := r4.ls
    have hfb := (br4.set 0 (.int .i64 (D : Int))).set 1 (.slice ov K cv)
    have hfr := (r4.set (b := S + 1 + 1) (i := 0) (by omega) (.int .i64 (D : Int))).set (b := S + 1 + 1) (i := 1) (by omega) (.slice ov K cv)
    have hfw := (l4.setCell (p := ⟨S + 1 + 1, 0, none⟩) (by show w.heap.size ≤ S + 1 + 1; omega) (.int .i64 (D : Int))).setCell (p := ⟨S + 1 + 1, 1, none⟩) (by show w.heap.size ≤ S + 1 + 1; omega) (.slice ov K cv)
    have hd5 : ((W4.setCell ⟨S + 1 + 1, 0, none⟩ (.int .i64 (D : Int))).setCell ⟨S + 1 + 1, 1, none⟩ (.slice ov K cv)).heap[X + 3]? = some (.deferred (some [])) := (Below.heap_setCell _ ⟨S + 1 + 1, 1, none⟩ _ _ (by show X + 3 ≠ S + 1 + 1; omega)).trans ((Below.heap_setCell _ ⟨S + 1 + 1, 0, none⟩ _ _ (by show X + 3 ≠ S + 1 + 1; omega)).trans d4)
    rw [← hL] at hfr
    have c0 := b4.cell 0
    have c1 := b4.cell 1
    have g0 := br4.open_ 0
    have g1 := br4.open_ 1
    have e0 := br4.cell 0
    have e1 := br4.cell 1
    have HFB := Lib.hid hfb
    have HFR := Lib.hid hfr
    have HFW := Lib.hid hfw
    have HD5 := Lib.hid hd5
    clear hfb hfr hfw hd5 b4 r4 d4 br4 l4 hend hput j1 j2 j3 j4 j5 ht hr hst hpe hre hfn hb0 hl0 hd0 hbe0 bO bA bB bR hW0 hL hLk HA HB HC HR HM HM' HT Hb
    gi_wp2
    refine ⟨by simp, .inl ⟨_, _, rfl, run_takeDeferred HD5.out, ?_⟩⟩
    have hz : Box (((W4.setCell ⟨S + 1 + 1, 0, none⟩ (.int .i64 (D : Int))).setCell ⟨S + 1 + 1, 1, none⟩ (.slice ov K cv)).putObj (X + 3) (.deferred none)) (S + 1 + 1) _ _ := (World.putObj_heap_other (by omega)).trans HFB.out
    have z0 := hz.cell 0
    have z1 := hz.cell 1
    simp at z0 z1
    have hmx : Mn (X + 6) (((W4.setCell ⟨S + 1 + 1, 0, none⟩ (.int .i64 (D : Int))).setCell ⟨S + 1 + 1, 1, none⟩ (.slice ov K cv)).putObj (X + 3) (.deferred none)) ov K cv D (mulr C a b) := ⟨_, HFR.out.keep fun j hj _ => World.putObj_heap_other (by omega)⟩
    exact ⟨.tuple #[.agg #[.int .i64 (D : Int), .slice ov K cv], .int .i64 0], by simp [results, Tryd.results16, go_sem, z0, z1], ⟨_, _, rfl, hmx.mx, HFW.out.trans (belowK_b (w := w) (Nat.le_refl _) _ _ _ _ (by omega) HD5.out rfl rfl)⟩⟩


end Go.Proofs.YtdobhdhgmbmhfaaDoor
