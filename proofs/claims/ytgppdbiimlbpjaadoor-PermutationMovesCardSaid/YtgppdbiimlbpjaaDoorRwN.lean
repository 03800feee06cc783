/- Package permutation: Format. -/
import Derived.Test.YtgppdbiimlbpjaaDoorRwM
import Derived.WalkKit
import Derived.WalkSpells
import Derived.WalkLawsBesides
import Derived.Handy
import Derived.Deep.QuietTactic
import Derived.BigQuiet
import Derived.Outline
import Derived.Laws.BitsAllLaws
import Derived.IntWalk
import Derived.Lib.SmallJoins
import Derived.Lib.Hide
import Derived.Deep.DeepCutAuto
import Derived.LoopTactic
import Derived.Deep.RegionWith
import Derived.Laws.CopyOwn
import Derived.Maps.OwnOps
import Derived.Maps.OwnSet
import Derived.Laws.OwnMore
import Derived.Maps.AppendAt
import Derived.Test.YtgppdbiimlbpjaaDoorShelF
import Derived.RangeFuncNested
import Derived.RangeFuncBound
import Derived.RangeFuncCalls
import Derived.RangeFuncLeaves
import Derived.RangeFuncBox
import Derived.RangeFuncFrom
import Derived.Shelf.Abstract
import Derived.Shelf.RegionOpen
import Derived.OwnWalkIn
import Derived.TacticsInMore
import Derived.LoopNIn
import Derived.LoopIn
namespace Go.Proofs.YtgppdbiimlbpjaaDoor
set_option linter.unusedVariables false
set_option linter.unusedSimpArgs false
open Go.RowKit Go.Shelf
attribute [local go_sem] Oper.semAt_some
/-- One digit. -/
def dg (p : Nat) : ByteArray := ⟨#[UInt8.ofNat (48 + p)]⟩

set_option maxHeartbeats 1000000 in
theorem small_ok (p : Nat) (hp : p < 5) (w : World) : Calls Tryd.prog 106 #[.int .i64 (p : Int)] w fun e w' => e = .returned (.string (dg p)) ∧ w = w' := by
  obtain rfl | rfl | rfl | rfl | rfl : p = 0 ∨ p = 1 ∨ p = 2 ∨ p = 3 ∨ p = 4 := by omega
  all_goals
    go_enter Tryd.func106, Tryd.ntmps106
    go_wp2_with fail
    go_ret
    exact ⟨by kernel_rfl, rfl⟩

set_option maxHeartbeats 1000000 in
theorem fmtint_ok (p : Nat) (hp : p < 5) (w : World) : Calls Tryd.prog 92 #[.int .i64 (p : Int), .int .i64 10] w fun e w' => e = .returned (.string (dg p)) ∧ w = w' := by
  have H := Lib.hid (fun w => small_ok p hp w)
  have h5 : (p : Int) < 5 := by omega
  clear hp
  go_enter Tryd.func92, Tryd.ntmps92
  go_wp2_with fail
  refine (H.out _).mono ?_
  rintro e w' ⟨rfl, rfl⟩
  go_wp2_with fail
  go_ret
  exact ⟨rfl, rfl⟩

set_option maxHeartbeats 1000000 in
theorem itoa0_ok (p : Nat) (hp : p < 5) (w : World) : Calls Tryd.prog 76 #[.int .i64 (p : Int)] w fun e w' => e = .returned (.string (dg p)) ∧ w = w' := by
  have H := Lib.hid (fun w => fmtint_ok p hp w)
  have h5 : (p : Int) < 5 := by omega
  clear hp
  go_enter Tryd.func76, Tryd.ntmps76
  go_wp2_with fail
  refine (H.out _).mono ?_
  rintro e w' ⟨rfl, rfl⟩
  go_wp2_with fail
  go_ret
  exact ⟨rfl, rfl⟩

set_option maxHeartbeats 1000000 in
theorem itoa_ok (p : Nat) (hp : p < 5) (w : World) : Calls Tryd.prog 62 #[.int .i64 (p : Int)] w fun e w' => e = .returned (.string (dg p)) ∧ w = w' := by
  have H := Lib.hid (fun w => itoa0_ok p hp w)
  have h5 : (p : Int) < 5 := by omega
  clear hp
  go_enter Tryd.func62, Tryd.ntmps62
  go_wp2_with fail
  refine (H.out _).mono ?_
  rintro e w' ⟨rfl, rfl⟩
  go_wp2_with fail
  go_ret
  exact ⟨rfl, rfl⟩


theorem Kept.drew {w : World} {pb : Option Nat} {B : Nat} : Kept pb B w w.drew := ⟨rfl, rfl, rfl, Nat.le_refl _, fun _ _ _ => rfl⟩
theorem Kept.set {w : World} {b B : Nat} (i : Nat) (v : Value) : Kept (some b) B w (w.setCell ⟨b, i, none⟩ v) := ⟨rfl, rfl, rfl, by simp, fun k _ hk => Below.heap_setCell w ⟨b, i, none⟩ v k (fun e => hk (by rw [e]))⟩
/-- The text of one cycle behind s: its first i numbers. -/
def cyt (s : ByteArray) (c : List Nat) : Nat → ByteArray
  | 0 => s
  | i + 1 => (cyt s c i ++ (if i = 0 then { data := #[40] } else { data := #[32] } : ByteArray)) ++ dg (fun_ c i)
def txtc (L : List (List Nat)) : ByteArray := L.foldl (fun s c => cyt s c c.length ++ { data := #[41] }) ⟨#[]⟩
theorem cyt_size (s : ByteArray) (c : List Nat) : ∀ i, (cyt s c i).size = s.size + 2 * i
  | 0 => rfl
  | i + 1 => by
    have ih := cyt_size s c i
    show ((cyt s c i ++ (if i = 0 then { data := #[40] } else { data := #[32] } : ByteArray)) ++ dg (fun_ c i)).size = _
    rw [ByteArray.size_append, ByteArray.size_append, ih]
    have h1 : (dg (fun_ c i)).size = 1 := rfl
    have h2 : (if i = 0 then { data := #[40] } else { data := #[32] } : ByteArray).size = 1 := by split <;> rfl
    omega
theorem txtc_snoc (L : List (List Nat)) (c : List Nat) : txtc (L ++ [c]) = cyt (txtc L) c c.length ++ { data := #[41] } := by simp [txtc, List.foldl_append]
/-- The text of a permutation. -/
def ptx (n : Nat) (a : Nat → Nat) : ByteArray := if (txtc (cyco n a n).2).size = 0 then { data := #[40, 41] } else txtc (cyco n a n).2

section
variable {F : Fence} {n : Nat} {P : Program}
/-- A range over a function value: the record that it lays, the call that it makes. -/
theorem range_call {g : Operand} {ps : Array Tmp} {assign body : Code} {Q : Exit → Act → World → Prop} {a : Act} {w : World} (hro : F.round = none) (h1 : 1 ≤ n) {gf : Nat} {lb : Array Value} (hg : a.eval g = .func (.func gf) #[] lb) (hFg : F.fn gf) (eg : ∀ args w, (callFunc gf args).run P w = .ok (.enter gf args) w)
    (hcall : ∀ (r : Loop), F.fn r.fn → r = { state := .ready, pending := none, fn := r.fn, tmps := a.tmps, params := ps, assign, body, defers := w.heap.size } → CallsIn F (n - 1) P gf (#[.func (.yield (w.heap.size + 1)) #[] #[]] ++ lb) ((w.alloc (.deferred (some []))).alloc (.loop r)) (rangePost F n P (w.heap.size + 1) Q { a with defers := { target := .collected w.heap.size, args := #[] } :: a.defers })) :
    (Code.rangeFunc g ps assign body).wpIn F n P Q a w := by
  refine wpIn_rangeFunc ?_
  intro fn hfn
  rw [hro]
  refine ⟨w.heap.size + 1, [{ target := .collected w.heap.size, args := #[] }], _, { target := .fn (.func gf) lb, args := #[.func (.yield (w.heap.size + 1)) #[] #[]] }, (w.alloc (.deferred (some []))).alloc (.loop { state := .ready, pending := none, fn, tmps := a.tmps, params := ps, assign, body, defers := w.heap.size }), gf, #[.func (.yield (w.heap.size + 1)) #[] #[]] ++ lb, (w.alloc (.deferred (some []))).alloc (.loop { state := .ready, pending := none, fn, tmps := a.tmps, params := ps, assign, body, defers := w.heap.size }), run_enterLoop_outer _ _ _ _ _, ?_, ?_, ?_, fun _ => h1, ?_⟩
  · simp only [resolve, hg]
    simp [go_sem]
  · intro f' hf'; simp [Target.leads] at hf'; subst hf'; exact hFg
  · simp [invoke, go_sem, eg]
  · exact hcall { state := .ready, pending := none, fn, tmps := a.tmps, params := ps, assign, body, defers := w.heap.size } hfn rfl
/-- One round whose body goes on. -/
theorem yield_on {l : Nat} {args : Array Value} {W : World} {r rb : Loop} (hrb : { r with state := .busy } = rb) {R : World → Prop} (hl : W.heap[l]? = some (.loop r)) (hst : r.state = .ready) (hpe : r.pending = none) (hs : args.size = r.params.size) (hfn : F.fn r.fn)
    (h : r.assign.wpIn (F.inRound l) n P (Exit.then (fun a₁ w₁ => w₁ = W ∧ r.body.wpIn (F.inRound l) n P (fun e _ W3 => e = .normal ∧ W3.heap[l]? = some (.loop rb) ∧ R (W3.putObj l (.loop r))) a₁ (W.putObj l (.loop rb))) (fun _ _ _ => False)) { tmps := (r.params.zip args).foldl (fun tmps (t, a) => tmps.setIfInBounds t a) r.tmps, defers := [] } W) :
    YieldAt F n P l args W fun e W' => e = .returned (.bool true) ∧ R W' := by
  subst hrb
  refine ⟨r.fn, _, r.assign, r.body, run_yield hl hs, roundIn_of_wpIn hfn (wpIn_mono h ?_)⟩
  intro e a1 W1 h1
  cases e with
  | normal =>
    obtain ⟨rfl, hb⟩ := h1
    refine ⟨_, run_beginRound hl hst, wpIn_mono hb ?_⟩
    rintro e a3 W3 ⟨rfl, hl3, hR⟩
    refine ⟨_, _, run_endRound none hl3, rfl, ?_⟩
    have e1 : ({ ({ r with state := .busy } : Loop) with state := if (none : Option Code).isNone then .ready else .done, pending := none } : Loop) = r := by
      cases r; simp at hst hpe; subst hst; subst hpe; rfl
    rw [e1]
    exact hR
  | ret => exact h1.elim
  | exit id => exact h1.elim
  | goto t => exact h1.elim
  | panic ch => exact h1.elim
  | outgrown => exact h1.elim
end

theorem cycles_in (F : Fence) (m : Nat) (h : F.fn 61) (hro : F.round = none) (o : Option Addr) (n cap : Nat) (w : World) :
    CallsIn F m Tryd.prog 61 #[.slice o n cap] w fun e w' => e = .returned (.func (.func 75) #[] #[.pointer (some ⟨w.heap.size, 0, none⟩)]) ∧ w' = w.alloc (.cells #[.slice o n cap] 22) := by
  refine callsIn_of_wp Tryd.func61 rfl h ?_ hro
  simp only [Tryd.ntmps61, List.size_toArray, List.length_cons, List.length_nil, Nat.reduceAdd, Nat.reduceSub, Array.replicate_succ, Array.replicate_zero, List.push_toArray, List.append_toArray, List.nil_append, List.cons_append]
  gi_wp2
  go_ret
  exact ⟨rfl, rfl⟩

set_option maxRecDepth 100000 in
set_option maxHeartbeats 4000000 in
theorem fmt_in (n : Nat) (a : Nat → Nat) (ha : Good n a) (o : Option Addr) (cap : Nat) (w : World) (hL : Lq w o n cap (zf a)) :
    CallsIn Fence.wide 4 Tryd.prog 36 #[.slice o n cap] w fun e W' => e = .returned (.tuple #[.string (ptx n a), .int .i64 0]) ∧ Below w.heap.size w W' := by
  have HCh := Lib.hid ((callsIn_wide (n := 3)).2 (by have := check_any n (zf a) o cap w hL; rwa [good_code ha] at this))
  have HCy := Lib.hid (fun w => cycles_in Fence.wide 3 trivial rfl o n cap w)
  have HA := Lib.hid ha
  obtain ⟨b, off, rfl, hb, hc⟩ := hL.1 (by have := ha.lo; omega)
  have HC := Lib.hid hc
  clear ha hL hc
  refine callsIn_of_wp_marks Tryd.func36 rfl trivial ?_ rfl
  simp only [Tryd.ntmps36, List.size_toArray, List.length_cons, List.length_nil, Nat.reduceAdd, Nat.reduceSub, Array.replicate_succ, Array.replicate_zero, List.push_toArray, List.append_toArray, List.nil_append, List.cons_append]
  gi_wp2_with (first | (refine ⟨trivial, ?_⟩; gi_at_call 19; refine HCh.out.mono ?_; rintro e w' ⟨rfl, rfl⟩) | (refine ⟨trivial, ?_⟩; gi_at_call 61; refine (HCy.out _).mono ?_; rintro e w' ⟨rfl, rfl⟩))
  obtain ⟨Wc, hWc⟩ : ∃ Wc, (w.alloc (.cells #[.string ⟨#[]⟩] 9)).alloc (.cells #[.slice (some ⟨b, off, none⟩) n cap] 22) = Wc := ⟨_, rfl⟩
  rw [hWc]
  have hsz : Wc.heap.size = w.heap.size + 2 := by rw [← hWc]; simp
  have bS : Box Wc w.heap.size #[.string ⟨#[]⟩] 9 := by rw [← hWc]; exact (Box.new w _ _).alloc _
  have bB : Box Wc (w.heap.size + 1) #[.slice (some ⟨b, off, none⟩) n cap] 22 := by
    have := Box.new (w.alloc (.cells #[.string ⟨#[]⟩] 9)) #[.slice (some ⟨b, off, none⟩) n cap] 22
    rw [World.size_alloc, hWc] at this
    exact this
  have hbc : Below w.heap.size w Wc := by rw [← hWc]; exact ((Below.refl _ w).alloc (Nat.le_refl _) _).alloc (by simp) _
  refine range_call rfl (by omega) (gf := 75) (lb := #[.pointer (some ⟨w.heap.size + 1, 0, none⟩)]) rfl trivial (fun args w => by kernel_rfl) ?_
  intro r hfn hr
  have hst : r.state = .ready := by rw [hr]
  have hpe : r.pending = none := by rw [hr]
  obtain ⟨W1, hW1⟩ : ∃ W1, (Wc.alloc (.deferred (some []))).alloc (.loop r) = W1 := ⟨_, rfl⟩
  rw [hW1]
  have hs1 : W1.heap.size = w.heap.size + 4 := by rw [← hW1]; simp; omega
  have hb1 : Below Wc.heap.size Wc W1 := by rw [← hW1]; exact ((Below.refl _ _).alloc (Nat.le_refl _) _).alloc (by simp) _
  have hl1 : W1.heap[Wc.heap.size + 1]? = some (.loop r) := by
    rw [← hW1]; have := World.alloc_heap_new (Wc.alloc (.deferred (some []))) (.loop r); rwa [World.size_alloc] at this
  have hd1 : W1.heap[Wc.heap.size]? = some (.deferred (some [])) := by
    rw [← hW1]; exact (Below.heap_alloc _ _ _ (by simp)).trans (World.alloc_heap_new Wc _)
  have hn5 := HA.out.hi
  refine CallsIn.mono (cycles1_in Fence.wide 3 trivial rfl (by omega) (Wc.heap.size + 1) n a HA.out w.heap.size (Wc.heap.size + 1) (w.heap.size + 1) (some ⟨b, off, none⟩) cap
    (fun pre W => Box W w.heap.size #[.string (txtc pre)] 9 ∧ W.heap[Wc.heap.size + 1]? = some (.loop r) ∧ W.heap[Wc.heap.size]? = some (.deferred (some [])) ∧ Below w.heap.size w W ∧ (txtc pre).size ≤ 11 * pre.length) W1 (by omega) (by omega) ((hb1.cell (p := ⟨w.heap.size + 1, 0, none⟩) (by show w.heap.size + 1 < _; omega)).trans (bB.cell 0)) (by omega) (by omega) (by omega)
    ⟨b, off, rfl, by omega, by omega, by omega, fun i hi => (hb1.cell (p := ⟨b, off + i, none⟩) (by show b < _; omega)).trans ((hbc.cell (p := ⟨b, off + i, none⟩) hb).trans (HC.out i hi))⟩
    (fun s A B hAB hj => ⟨hj.1.below hAB (by omega), (hAB.block _ (by omega)).trans hj.2.1, (hAB.block _ (by omega)).trans hj.2.2.1, hj.2.2.2.1.trans (Joins.below_le hAB (by omega)), hj.2.2.2.2⟩)
    ?_ ⟨bS.below hb1 (by omega), hl1, hd1, hbc.trans (Joins.below_le hb1 (by omega)), by show 0 ≤ _; omega⟩) ?_
  · rintro pre c oc k W ⟨hj1, hj2, hj3, hj4, hj5⟩ hp5 hWs ⟨g, rfl, hg1, hg2, hcl⟩ hc1 hc5 hcs
    have ea := congrArg Loop.assign hr
    have eb := congrArg Loop.body hr
    have ep := congrArg Loop.params hr
    have et := congrArg Loop.tmps hr
    simp only at ea eb ep et
    obtain ⟨rb, hrb⟩ : ∃ rb : Loop, { r with state := .busy } = rb := ⟨_, rfl⟩
    refine yield_on hrb hj2 hst hpe (by rw [ep]; rfl) hfn ?_
    rw [ea, eb, ep, et]
    clear ea eb ep et
    have hlt1 : Wc.heap.size + 1 < W.heap.size := (Array.getElem?_eq_some_iff.1 hj2).1
    obtain ⟨Wb, hWb⟩ : ∃ Wb, W.putObj (Wc.heap.size + 1) (.loop rb) = Wb := ⟨_, rfl⟩
    have oth : ∀ k, k ≠ Wc.heap.size + 1 → Wb.heap[k]? = W.heap[k]? := fun k hk => by rw [← hWb]; exact World.putObj_heap_other hk
    have hl2 : Wb.heap[Wc.heap.size + 1]? = some (.loop rb) := by rw [← hWb]; exact World.putObj_heap_same hlt1
    have hsb : Wb.heap.size = W.heap.size := by rw [← hWb]; simp [World.putObj]
    have hb0 : Box Wb w.heap.size #[.string (txtc pre)] 9 := (oth _ (by omega)).trans hj1
    have hcl2 : ∀ i, i < c.length → Wb.cell? ⟨g, i, none⟩ = some (.int .i64 (zf (fun_ c) i)) := fun i hi => (World.cell?_of_block (w := W) (a := ⟨g, i, none⟩) (oth g (by omega))).trans (hcl i hi)
    rw [hWb]
    obtain ⟨s, hs⟩ : ∃ s, txtc pre = s := ⟨_, rfl⟩
    rw [hs] at hb0 hj5
    have HPre := Lib.hid hs
    have HWb := Lib.hid hWb
    have HOth := Lib.hid oth
    have HL2 := Lib.hid hl2
    have HB0 := Lib.hid hb0
    have HCl := Lib.hid hcl2
    have HCs := Lib.hid hcs
    have HJ1 := Lib.hid hj1
    have HJ3 := Lib.hid hj3
    have HJ4 := Lib.hid hj4
    have HJ2 := Lib.hid hj2
    have HRr := Lib.hid hr
    have HSt := Lib.hid hst
    have HPe := Lib.hid hpe
    have HFn := Lib.hid hfn
    have Hsz := Lib.hid hsz
    clear hsz hrb hr hst hpe hj1 hj2 hj3 hj4 hcl hcl2 hcs oth hl2 hb0 hs hWb bS bB hb1 hl1 hd1 HCh HCy HC hWc hW1 hfn
    gi_wp2
    gi_loopw [19] (fun j wl => ∃ i : Nat, i ≤ c.length ∧ j = .int .i64 (i : Int) ∧ Box wl w.heap.size #[.string (cyt s c i)] 9 ∧ Kept (some w.heap.size) Wb.heap.size Wb wl) (fun j _ => c.length - (intOf j).toNat)
    case atStart => exact ⟨0, by omega, rfl, HB0.out, Kept.refl _ _ _⟩
    case round =>
      obtain ⟨i, hi, rfl, hbx, hke⟩ := hrel
      by_cases hlt : i < c.length
      · have c1 : wr.cell? ⟨g, i, none⟩ = _ := (World.cell?_of_block (w := Wb) (a := ⟨g, i, none⟩) (hke.block g (by omega) (fun e => by have := Option.some.inj e; omega))).trans (HCl.out i hlt)
        have hz5 := HCs.out i
        unfold zf at c1
        have hi1 : (i : Int) < (c.length : Int) := by omega
        by_cases hi0 : i = 0
        · have hi00 : ((i : Int) == 0) = true := by simp [hi0]
          have hcy : cyt s c (i + 1) = (cyt s c i ++ { data := #[40] }) ++ dg (fun_ c i) := by show (cyt s c i ++ (if i = 0 then _ else _)) ++ _ = _; rw [if_pos hi0]
          have hbx1 := hbx.set 0 (.string (cyt s c i ++ { data := #[40] }))
          have hbx2 := hbx1.set 0 (.string ((cyt s c i ++ { data := #[40] }) ++ dg (fun_ c i)))
          have hke2 := (hke.trans (Kept.set (w := wr) (b := w.heap.size) (B := Wb.heap.size) 0 (.string (cyt s c i ++ { data := #[40] })))).trans (Kept.set 0 (.string ((cyt s c i ++ { data := #[40] }) ++ dg (fun_ c i))))
          have k1 : wr.cell? ⟨w.heap.size, 0, none⟩ = some (.string (cyt s c i)) := hbx.cell 0
          have k2 := hbx.open_ 0
          have k3 : (wr.setCell ⟨w.heap.size, 0, none⟩ (.string (cyt s c i ++ { data := #[40] }))).cell? ⟨w.heap.size, 0, none⟩ = some (.string (cyt s c i ++ { data := #[40] })) := hbx1.cell 0
          have k4 := hbx1.open_ 0
          have hz1 := cyt_size s c i
          obtain ⟨t1, ht1⟩ : ∃ t, cyt s c i = t := ⟨_, rfl⟩
          rw [ht1] at hz1
          rw [ht1] at hcy hbx1 hbx2 hke2 k1 k3 k4
          obtain ⟨z, hz⟩ : ∃ z, fun_ c i = z := ⟨_, rfl⟩
          rw [hz] at hcy hbx2 hke2 c1 hz5
          have hz2 : (dg z).size = 1 := rfl
          have hn1 : ¬ 9223372036854775807 < t1.size + 1 := by omega
          have hn2 : ¬ 9223372036854775807 < t1.size + 1 + (dg z).size := by omega
          have hn3 : ¬ 9223372036854775807 < t1.size + 1 + 1 := by omega
          have HO := Lib.hid (fun w => itoa_ok z hz5 w)
          have Hcy := Lib.hid hcy
          have Hbx2 := Lib.hid hbx2
          have Hke2 := Lib.hid hke2
          clear hcy hbx1 hbx2 hke2 hbx hke ht1 hz hi0 hz1 hz2
          gi_wp2
          have hmx : Tryd.prog.follows .mixedOrders = true := by kernel_rfl
          refine wpIn_region_any hmx ?_
          try (change wpAnyIn _ _ _ _ _ _ _ _ _ (World.drew _))
          refine wpAnyIn_ready (rs := [0, 1]) (by kernel_rfl) (by simp) ?_
          refine AllReadyIn.cons rfl (fun K hK => ?_) ?_
          · go_simp
            try (refine hK _ _ ?_; clear hK K)
            refine wpAnyIn_ready (rs := [1]) (by kernel_rfl) (by simp) ?_
            refine AllReadyIn.cons rfl (fun K hK => ?_) ?_
            · go_simp
              try (refine hK _ _ ?_; clear hK K)
              refine wpAnyIn_ready (rs := [2]) (by kernel_rfl) (by simp) ?_
              refine AllReadyIn.cons rfl (fun K hK => ?_) ?_
              · go_simp
                gi_wp2_with (refine ⟨trivial, ?_⟩; gi_at_call 62; refine (CallsIn.inRound _ (callsIn_wide.2 (HO.out _))).mono ?_; rintro e w' ⟨rfl, rfl⟩)
                try (refine hK _ _ ?_; clear hK K)
                refine wpAnyIn_ready (rs := [3]) (by kernel_rfl) (by simp) ?_
                refine AllReadyIn.cons rfl (fun K hK => ?_) ?_
                · go_simp
                  try (refine hK _ _ ?_; clear hK K)
                  refine wpAnyIn_ready (rs := [4]) (by kernel_rfl) (by simp) ?_
                  refine AllReadyIn.cons rfl (fun K hK => ?_) ?_
                  · go_simp
                    try (refine hK _ _ ?_; clear hK K)
                    refine wpAnyIn_done (by kernel_rfl) ?_ _
                    gi_wp2
                    go_roundw
                    case rel => exact ⟨i + 1, by omega, by go_num, by rw [Hcy.out]; exact Hbx2.out, Hke2.out.trans Kept.drew⟩
                    case measure => simp [intOf]; omega
                  exact AllReadyIn.nil
                exact AllReadyIn.nil
              exact AllReadyIn.nil
            exact AllReadyIn.nil
          refine AllReadyIn.cons rfl (fun K hK => ?_) ?_
          · go_simp
            try (refine hK _ _ ?_; clear hK K)
            refine wpAnyIn_ready (rs := [0, 2]) (by kernel_rfl) (by simp) ?_
            refine AllReadyIn.cons rfl (fun K hK => ?_) ?_
            · go_simp
              try (refine hK _ _ ?_; clear hK K)
              refine wpAnyIn_ready (rs := [2]) (by kernel_rfl) (by simp) ?_
              refine AllReadyIn.cons rfl (fun K hK => ?_) ?_
              · go_simp
                gi_wp2_with (refine ⟨trivial, ?_⟩; gi_at_call 62; refine (CallsIn.inRound _ (callsIn_wide.2 (HO.out _))).mono ?_; rintro e w' ⟨rfl, rfl⟩)
                try (refine hK _ _ ?_; clear hK K)
                refine wpAnyIn_ready (rs := [3]) (by kernel_rfl) (by simp) ?_
                refine AllReadyIn.cons rfl (fun K hK => ?_) ?_
                · go_simp
                  try (refine hK _ _ ?_; clear hK K)
                  refine wpAnyIn_ready (rs := [4]) (by kernel_rfl) (by simp) ?_
                  refine AllReadyIn.cons rfl (fun K hK => ?_) ?_
                  · go_simp
                    try (refine hK _ _ ?_; clear hK K)
                    refine wpAnyIn_done (by kernel_rfl) ?_ _
                    gi_wp2
                    go_roundw
                    case rel => exact ⟨i + 1, by omega, by go_num, by rw [Hcy.out]; exact Hbx2.out, Hke2.out.trans Kept.drew⟩
                    case measure => simp [intOf]; omega
                  exact AllReadyIn.nil
                exact AllReadyIn.nil
              exact AllReadyIn.nil
            refine AllReadyIn.cons rfl (fun K hK => ?_) ?_
            · go_simp
              gi_wp2_with (refine ⟨trivial, ?_⟩; gi_at_call 62; refine (CallsIn.inRound _ (callsIn_wide.2 (HO.out _))).mono ?_; rintro e w' ⟨rfl, rfl⟩)
              try (refine hK _ _ ?_; clear hK K)
              refine wpAnyIn_ready (rs := [0]) (by kernel_rfl) (by simp) ?_
              refine AllReadyIn.cons rfl (fun K hK => ?_) ?_
              · go_simp
                try (refine hK _ _ ?_; clear hK K)
                refine wpAnyIn_ready (rs := [3]) (by kernel_rfl) (by simp) ?_
                refine AllReadyIn.cons rfl (fun K hK => ?_) ?_
                · go_simp
                  try (refine hK _ _ ?_; clear hK K)
                  refine wpAnyIn_ready (rs := [4]) (by kernel_rfl) (by simp) ?_
                  refine AllReadyIn.cons rfl (fun K hK => ?_) ?_
                  · go_simp
                    try (refine hK _ _ ?_; clear hK K)
                    refine wpAnyIn_done (by kernel_rfl) ?_ _
                    gi_wp2
                    go_roundw
                    case rel => exact ⟨i + 1, by omega, by go_num, by rw [Hcy.out]; exact Hbx2.out, Hke2.out.trans Kept.drew⟩
                    case measure => simp [intOf]; omega
                  exact AllReadyIn.nil
                exact AllReadyIn.nil
              exact AllReadyIn.nil
            exact AllReadyIn.nil
          exact AllReadyIn.nil
        · have hi00 : ((i : Int) == 0) = false := by rw [beq_eq_false_iff_ne]; omega
          have hcy : cyt s c (i + 1) = (cyt s c i ++ { data := #[32] }) ++ dg (fun_ c i) := by show (cyt s c i ++ (if i = 0 then _ else _)) ++ _ = _; rw [if_neg hi0]
          have hbx1 := hbx.set 0 (.string (cyt s c i ++ { data := #[32] }))
          have hbx2 := hbx1.set 0 (.string ((cyt s c i ++ { data := #[32] }) ++ dg (fun_ c i)))
          have hke2 := (hke.trans (Kept.set (w := wr) (b := w.heap.size) (B := Wb.heap.size) 0 (.string (cyt s c i ++ { data := #[32] })))).trans (Kept.set 0 (.string ((cyt s c i ++ { data := #[32] }) ++ dg (fun_ c i))))
          have k1 : wr.cell? ⟨w.heap.size, 0, none⟩ = some (.string (cyt s c i)) := hbx.cell 0
          have k2 := hbx.open_ 0
          have k3 : (wr.setCell ⟨w.heap.size, 0, none⟩ (.string (cyt s c i ++ { data := #[32] }))).cell? ⟨w.heap.size, 0, none⟩ = some (.string (cyt s c i ++ { data := #[32] })) := hbx1.cell 0
          have k4 := hbx1.open_ 0
          have hz1 := cyt_size s c i
          obtain ⟨t1, ht1⟩ : ∃ t, cyt s c i = t := ⟨_, rfl⟩
          rw [ht1] at hz1
          rw [ht1] at hcy hbx1 hbx2 hke2 k1 k3 k4
          obtain ⟨z, hz⟩ : ∃ z, fun_ c i = z := ⟨_, rfl⟩
          rw [hz] at hcy hbx2 hke2 c1 hz5
          have hz2 : (dg z).size = 1 := rfl
          have hn1 : ¬ 9223372036854775807 < t1.size + 1 := by omega
          have hn2 : ¬ 9223372036854775807 < t1.size + 1 + (dg z).size := by omega
          have hn3 : ¬ 9223372036854775807 < t1.size + 1 + 1 := by omega
          have HO := Lib.hid (fun w => itoa_ok z hz5 w)
          have Hcy := Lib.hid hcy
          have Hbx2 := Lib.hid hbx2
          have Hke2 := Lib.hid hke2
          clear hcy hbx1 hbx2 hke2 hbx hke ht1 hz hi0 hz1 hz2
          gi_wp2
          have hmx : Tryd.prog.follows .mixedOrders = true := by kernel_rfl
          refine wpIn_region_any hmx ?_
          try (change wpAnyIn _ _ _ _ _ _ _ _ _ (World.drew _))
          refine wpAnyIn_ready (rs := [0, 1]) (by kernel_rfl) (by simp) ?_
          refine AllReadyIn.cons rfl (fun K hK => ?_) ?_
          · go_simp
            try (refine hK _ _ ?_; clear hK K)
            refine wpAnyIn_ready (rs := [1]) (by kernel_rfl) (by simp) ?_
            refine AllReadyIn.cons rfl (fun K hK => ?_) ?_
            · go_simp
              try (refine hK _ _ ?_; clear hK K)
              refine wpAnyIn_ready (rs := [2]) (by kernel_rfl) (by simp) ?_
              refine AllReadyIn.cons rfl (fun K hK => ?_) ?_
              · go_simp
                gi_wp2_with (refine ⟨trivial, ?_⟩; gi_at_call 62; refine (CallsIn.inRound _ (callsIn_wide.2 (HO.out _))).mono ?_; rintro e w' ⟨rfl, rfl⟩)
                try (refine hK _ _ ?_; clear hK K)
                refine wpAnyIn_ready (rs := [3]) (by kernel_rfl) (by simp) ?_
                refine AllReadyIn.cons rfl (fun K hK => ?_) ?_
                · go_simp
                  try (refine hK _ _ ?_; clear hK K)
                  refine wpAnyIn_ready (rs := [4]) (by kernel_rfl) (by simp) ?_
                  refine AllReadyIn.cons rfl (fun K hK => ?_) ?_
                  · go_simp
                    try (refine hK _ _ ?_; clear hK K)
                    refine wpAnyIn_done (by kernel_rfl) ?_ _
                    gi_wp2
                    go_roundw
                    case rel => exact ⟨i + 1, by omega, by go_num, by rw [Hcy.out]; exact Hbx2.out, Hke2.out.trans Kept.drew⟩
                    case measure => simp [intOf]; omega
                  exact AllReadyIn.nil
                exact AllReadyIn.nil
              exact AllReadyIn.nil
            exact AllReadyIn.nil
          refine AllReadyIn.cons rfl (fun K hK => ?_) ?_
          · go_simp
            try (refine hK _ _ ?_; clear hK K)
            refine wpAnyIn_ready (rs := [0, 2]) (by kernel_rfl) (by simp) ?_
            refine AllReadyIn.cons rfl (fun K hK => ?_) ?_
            · go_simp
              try (refine hK _ _ ?_; clear hK K)
              refine wpAnyIn_ready (rs := [2]) (by kernel_rfl) (by simp) ?_
              refine AllReadyIn.cons rfl (fun K hK => ?_) ?_
              · go_simp
                gi_wp2_with (refine ⟨trivial, ?_⟩; gi_at_call 62; refine (CallsIn.inRound _ (callsIn_wide.2 (HO.out _))).mono ?_; rintro e w' ⟨rfl, rfl⟩)
                try (refine hK _ _ ?_; clear hK K)
                refine wpAnyIn_ready (rs := [3]) (by kernel_rfl) (by simp) ?_
                refine AllReadyIn.cons rfl (fun K hK => ?_) ?_
                · go_simp
                  try (refine hK _ _ ?_; clear hK K)
                  refine wpAnyIn_ready (rs := [4]) (by kernel_rfl) (by simp) ?_
                  refine AllReadyIn.cons rfl (fun K hK => ?_) ?_
                  · go_simp
                    try (refine hK _ _ ?_; clear hK K)
                    refine wpAnyIn_done (by kernel_rfl) ?_ _
                    gi_wp2
                    go_roundw
                    case rel => exact ⟨i + 1, by omega, by go_num, by rw [Hcy.out]; exact Hbx2.out, Hke2.out.trans Kept.drew⟩
                    case measure => simp [intOf]; omega
                  exact AllReadyIn.nil
                exact AllReadyIn.nil
              exact AllReadyIn.nil
            refine AllReadyIn.cons rfl (fun K hK => ?_) ?_
            · go_simp
              gi_wp2_with (refine ⟨trivial, ?_⟩; gi_at_call 62; refine (CallsIn.inRound _ (callsIn_wide.2 (HO.out _))).mono ?_; rintro e w' ⟨rfl, rfl⟩)
              try (refine hK _ _ ?_; clear hK K)
              refine wpAnyIn_ready (rs := [0]) (by kernel_rfl) (by simp) ?_
              refine AllReadyIn.cons rfl (fun K hK => ?_) ?_
              · go_simp
                try (refine hK _ _ ?_; clear hK K)
                refine wpAnyIn_ready (rs := [3]) (by kernel_rfl) (by simp) ?_
                refine AllReadyIn.cons rfl (fun K hK => ?_) ?_
                · go_simp
                  try (refine hK _ _ ?_; clear hK K)
                  refine wpAnyIn_ready (rs := [4]) (by kernel_rfl) (by simp) ?_
                  refine AllReadyIn.cons rfl (fun K hK => ?_) ?_
                  · go_simp
                    try (refine hK _ _ ?_; clear hK K)
                    refine wpAnyIn_done (by kernel_rfl) ?_ _
                    gi_wp2
                    go_roundw
                    case rel => exact ⟨i + 1, by omega, by go_num, by rw [Hcy.out]; exact Hbx2.out, Hke2.out.trans Kept.drew⟩
                    case measure => simp [intOf]; omega
                  exact AllReadyIn.nil
                exact AllReadyIn.nil
              exact AllReadyIn.nil
            exact AllReadyIn.nil
          exact AllReadyIn.nil
      · have e : i = c.length := by omega
        subst e
        clear hlt
        have hz1 := cyt_size s c c.length
        have htx := txtc_snoc pre c
        rw [HPre.out] at htx
        have hke2 := hke.trans (Kept.set (w := wr) (b := w.heap.size) (B := Wb.heap.size) 0 (.string (cyt s c c.length ++ { data := #[41] })))
        have hbx2 := hbx.set 0 (.string (cyt s c c.length ++ { data := #[41] }))
        have k1 : wr.cell? ⟨w.heap.size, 0, none⟩ = some (.string (cyt s c c.length)) := hbx.cell 0
        have k2 := hbx.open_ 0
        obtain ⟨t1, ht1⟩ : ∃ t, cyt s c c.length = t := ⟨_, rfl⟩
        rw [ht1] at hz1 htx hke2 hbx2 k1
        have hn1 : ¬ 9223372036854775807 < t1.size + 1 := by omega
        have HTx := Lib.hid htx
        have Hke2 := Lib.hid hke2
        have Hbx2 := Lib.hid hbx2
        have HZ1 := Lib.hid hz1
        clear htx hke2 hbx2 hbx hke ht1 hz1
        gi_wp2
        have htx := HTx.out
        have hke2 := Hke2.out
        have hbx2 := Hbx2.out
        have hsz := Hsz.out
        generalize wr.setCell ⟨w.heap.size, 0, none⟩ (.string (t1 ++ { data := #[41] })) = W3 at hke2 hbx2 ⊢
        have hLs : Wc.heap.size + 1 < W3.heap.size := by have := hke2.size; omega
        have hput : ∀ k, k ≠ Wc.heap.size + 1 → (W3.putObj (Wc.heap.size + 1) (.loop r)).heap[k]? = W3.heap[k]? := fun k hk => World.putObj_heap_other hk
        have hWbB : Below w.heap.size W Wb := by rw [← HWb.out]; exact belowK_b (w := w) (Nat.le_refl _) W _ _ _ (by omega) HJ2.out rfl rfl
        have hL3 : W3.heap[Wc.heap.size + 1]? = some (.loop rb) := (hke2.block _ (by omega) (fun e => by have := Option.some.inj e; omega)).trans HL2.out
        refine ⟨hL3, ⟨?_, World.putObj_heap_same hLs, ?_, ?_, ?_⟩, ⟨?_, ?_⟩⟩
        · exact (hput _ (by omega)).trans (by rw [htx]; exact hbx2)
        · exact (hput _ (by omega)).trans ((hke2.block _ (by omega) (fun e => by have := Option.some.inj e; omega)).trans ((HOth.out _ (by omega)).trans HJ3.out))
        · exact (((HJ4.out).trans hWbB).trans ((hke2.le (B' := w.heap.size) (by omega)).below (fun k hk => by cases hk; exact Nat.le_refl _))).trans (belowK_b (w := w) (Nat.le_refl _) W3 _ _ _ (by omega) hL3 rfl rfl)
        · have := HZ1.out
          rw [htx, ByteArray.size_append, this]
          try simp only [List.length_append, List.length_singleton]
          have h1 : ({ data := #[41] } : ByteArray).size = 1 := rfl
          omega
        · have := hke2.size
          simp [World.putObj]
          omega
        · intro k hk h1 h2
          exact (hput k h2).trans ((hke2.block k (by omega) (fun e => h1 (Option.some.inj e))).trans (HOth.out k h2))
  · rintro e W2 ⟨⟨v, rfl⟩, ⟨hj1, hj2, hj3, hj4, hj5⟩, ht⟩
    have hend := run_endLoop (P := Tryd.prog) hj2 (by rw [hst]; simp)
    obtain ⟨re, hre⟩ : ∃ re : Loop, { r with state := .exhausted } = re := ⟨_, rfl⟩
    rw [hre, hpe] at hend
    refine ⟨none, _, hend, ?_⟩
    have hput : ∀ k, k ≠ Wc.heap.size + 1 → (W2.putObj (Wc.heap.size + 1) (.loop re)).heap[k]? = W2.heap[k]? := fun k hk => World.putObj_heap_other hk
    have b4 : Box (W2.putObj (Wc.heap.size + 1) (.loop re)) w.heap.size #[.string (txtc (cyco n a n).2)] 9 := (hput _ (by omega)).trans hj1
    have d4 := (hput Wc.heap.size (by omega)).trans hj3
    have l4 : Below w.heap.size w (W2.putObj (Wc.heap.size + 1) (.loop re)) := hj4.trans (belowK_b (w := w) (Nat.le_refl _) W2 _ _ _ (by omega) hj2 rfl rfl)
    have hsz4 : (W2.putObj (Wc.heap.size + 1) (.loop re)).heap.size = W2.heap.size := by simp [World.putObj]
    have hDs : Wc.heap.size < W2.heap.size := (Array.getElem?_eq_some_iff.1 hj3).1
    generalize W2.putObj (Wc.heap.size + 1) (.loop re) = W4 at b4 d4 l4 hsz4 ⊢
    obtain ⟨s, hs⟩ : ∃ s, txtc (cyco n a n).2 = s := ⟨_, rfl⟩
    rw [hs] at b4
    have hpt : ptx n a = if s.size = 0 then { data := #[40, 41] } else s := by unfold ptx; rw [hs]
    have HPt := Lib.hid hpt
    clear hpt
    have HB4 := Lib.hid b4
    have HD4 := Lib.hid d4
    have HL4 := Lib.hid l4
    have k1 : W4.cell? ⟨w.heap.size, 0, none⟩ = some (.string s) := b4.cell 0
    have k2 := b4.open_ 0
    have Hsz := Lib.hid hsz
    clear hj1 hj2 hj3 hj4 hj5 ht hend hput b4 d4 l4 hs hr hst hpe bS bB hb1 hl1 hd1 HCh HCy HC hWc hW1 hfn hsz
    by_cases h0 : s.size = 0
    · have e : s = ⟨#[]⟩ := by
        have : s.data = #[] := Array.eq_empty_of_size_eq_zero h0
        cases s; simp at this; rw [this]
      subst e
      have hbx := HB4.out.set 0 (.string { data := #[40, 41] })
      have k3 : (W4.setCell ⟨w.heap.size, 0, none⟩ (.string { data := #[40, 41] })).cell? ⟨w.heap.size, 0, none⟩ = some (.string { data := #[40, 41] }) := hbx.cell 0
      clear hbx
      have hsz := Hsz.out
      have d5 : (W4.setCell ⟨w.heap.size, 0, none⟩ (.string { data := #[40, 41] })).heap[Wc.heap.size]? = some (.deferred (some [])) := (Below.heap_setCell W4 ⟨w.heap.size, 0, none⟩ _ _ (by show Wc.heap.size ≠ w.heap.size; omega)).trans HD4.out
      have HD5 := Lib.hid d5
      have hpt := HPt.out
      rw [if_pos h0] at hpt
      have HPt2 := Lib.hid hpt
      clear d5 hpt hsz
      gi_wp2
      refine ⟨by simp, .inl ⟨_, _, rfl, run_takeDeferred HD5.out, ?_⟩⟩
      refine ⟨_, results_tmp2 rfl _ _ _, (by rw [HPt2.out]; rfl), ?_⟩
      exact (HL4.out.setCell (p := ⟨w.heap.size, 0, none⟩) (Nat.le_refl _) _).trans (belowK_b (w := w) (Nat.le_refl _) _ _ _ _ (by have := Hsz.out; omega) HD5.out rfl rfl)
    · have e2 : s.toList ≠ [] := fun e => h0 (by rw [ByteArray.toList_eq] at e; have := congrArg List.length e; simpa using this)
      have e3 : (s.toList == []) = false := by simpa using e2
      have hpt := HPt.out
      rw [if_neg h0] at hpt
      have HPt2 := Lib.hid hpt
      clear hpt h0
      gi_wp2
      refine ⟨by simp, .inl ⟨_, _, rfl, run_takeDeferred HD4.out, ?_⟩⟩
      refine ⟨_, results_tmp2 rfl _ _ _, (by rw [HPt2.out]; rfl), ?_⟩
      exact HL4.out.trans (belowK_b (w := w) (Nat.le_refl _) _ _ _ _ (by have := Hsz.out; omega) HD4.out rfl rfl)

end Go.Proofs.YtgppdbiimlbpjaaDoor
