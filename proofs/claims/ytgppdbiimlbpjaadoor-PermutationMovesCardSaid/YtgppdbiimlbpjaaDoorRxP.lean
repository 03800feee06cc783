/- slices.Values, Collect, Sorted. -/
import Derived.Test.YtgppdbiimlbpjaaDoorRxO
import Derived.WalkKit
import Derived.WalkSpells
import Derived.WalkLawsBesides
import Derived.Handy
import Derived.Deep.QuietTactic
import Derived.BigQuiet
import Derived.Outline
import Derived.Laws.BitsAllLaws
import Derived.IntWalk
import Derived.Lib.SmallJoins
import Derived.Lib.Hide
import Derived.Deep.DeepCutAuto
import Derived.LoopTactic
import Derived.Deep.RegionWith
import Derived.Laws.CopyOwn
import Derived.Maps.OwnOps
import Derived.Maps.OwnSet
import Derived.Laws.OwnMore
import Derived.Maps.AppendAt
import Derived.Test.YtgppdbiimlbpjaaDoorShelF
import Derived.RangeFuncNested
import Derived.RangeFuncBound
import Derived.RangeFuncCalls
import Derived.RangeFuncLeaves
import Derived.RangeFuncBox
import Derived.RangeFuncFrom
import Derived.Shelf.Abstract
import Derived.Shelf.RegionOpen
import Derived.OwnWalkIn
import Derived.TacticsInMore
import Derived.LoopNIn
import Derived.LoopIn
namespace Go.Proofs.YtgppdbiimlbpjaaDoor
set_option linter.unusedVariables false
set_option linter.unusedSimpArgs false
open Go.RowKit Go.Shelf
attribute [local go_sem] Oper.semAt_some


theorem values_in (F : Fence) (n : Nat) (h : F.fn 42) (hro : F.round = none) (o : Option Addr) (m cap : Nat) (w : World) :
    CallsIn F n Tryd.prog 42 #[.slice o m cap] w fun e w' => e = .returned (.func (.func 66) #[] #[.pointer (some ⟨w.heap.size, 0, none⟩)]) ∧ w' = w.alloc (.cells #[.slice o m cap] 22) := by
  refine callsIn_of_wp Tryd.func42 rfl h ?_ hro
  simp only [Tryd.ntmps42, List.size_toArray, List.length_cons, List.length_nil, Nat.reduceAdd, Nat.reduceSub, Array.replicate_succ, Array.replicate_zero, List.push_toArray, List.append_toArray, List.nil_append, List.cons_append]
  gi_wp2
  go_ret
  exact ⟨rfl, rfl⟩
set_option maxRecDepth 100000 in
set_option maxHeartbeats 2000000 in
theorem values1_in (F : Fence) (n : Nat) (hF : F.fn 66) (hro : F.round = none) (hn : 1 ≤ n) (l Bn B0 : Nat) (o : Option Addr) (m cap : Nat) (hm : m ≤ 1000000) (f : Nat → Int) (J Jx : List Int → World → Prop)
    (hY : ∀ pre x W, J pre W → pre.length < (lsf m f).length → YieldAt F (n - 1) Tryd.prog l #[.int .i64 x] W fun e W' =>
      (e = .returned (.bool true) ∧ J (pre ++ [x]) W' ∧ Below B0 W W') ∨ (e = .returned (.bool false) ∧ Jx (pre ++ [x]) W'))
    (W : World) (hBn : W.cell? ⟨Bn, 0, none⟩ = some (.slice o m cap)) (hL : Lb B0 W o m f) (h0 : J [] W) :
    CallsIn F n Tryd.prog 66 #[.func (.yield l) #[] #[], .pointer (some ⟨Bn, 0, none⟩)] W fun e W' => (∃ v, e = .returned v) ∧
      ((∃ ys, ys = lsf m f ∧ J ys W') ∨ (∃ pre, pre <+: lsf m f ∧ Jx pre W')) := by
  have hlen : (lsf m f).length = m := by simp [lsf]
  rw [hlen] at hY
  refine callsIn_of_wp Tryd.func66 rfl hF ?_ hro
  simp only [Tryd.ntmps66, List.size_toArray, List.length_cons, List.length_nil, Nat.reduceAdd, Nat.reduceSub, Array.replicate_succ, Array.replicate_zero, List.push_toArray, List.append_toArray, List.nil_append, List.cons_append]
  have HY := Lib.hid hY
  have HL := Lib.hid hL
  clear hY hL hlen
  gi_wp2
  gi_loopw [7] (fun j wr => ∃ k : Nat, k ≤ m ∧ j = .int .i64 (k : Int) ∧ J (lsf k f) wr ∧ Lb B0 wr o m f) (fun j _ => m - (intOf j).toNat)
  case atStart => exact ⟨0, by omega, by first | trivial | rfl, h0, HL.out⟩
  case round =>
    obtain ⟨k, hk, rfl, hJs, hl⟩ := hrel
    have HLk := Lib.hid hl
    by_cases hlt : k < m
    · have hk1 : (k : Int) < (m : Int) := by omega
      obtain ⟨b, off, rfl, hb, hc⟩ := hl (by omega)
      have c1 := hc k hlt
      obtain ⟨x, hx⟩ : ∃ x, f k = x := ⟨_, rfl⟩
      have hsn := lsf_snoc k f
      rw [hx] at c1 hsn
      have HSn := Lib.hid hsn
      obtain ⟨fn, tmps, assign, body, hyy, hR⟩ := HY.out (lsf k f) x wr hJs (by simp [lsf]; omega)
      clear hc hx hsn hJs hl
      gi_wp2_with fail
      refine hR.mono ?_
      rintro e W3 (⟨rfl, hJ3, hk3⟩ | ⟨rfl, hJx3⟩)
      · rw [HSn.out] at hJ3
        have HL3 := Lib.hid (HLk.out.below hk3)
        clear hk3
        gi_wp2
        go_roundw
        case rel => exact ⟨k + 1, by omega, by go_num, hJ3, HL3.out⟩
        case measure => simp [intOf]; omega
      · rw [HSn.out] at hJx3
        have hpre : lsf (k + 1) f <+: lsf m f := by
          unfold lsf
          refine List.IsPrefix.map f ?_
          rw [List.prefix_iff_eq_take]
          rw [List.length_range, List.take_range]
          congr 1
          omega
        have HPre := Lib.hid hpre
        clear hpre
        gi_wp2
        refine bodyPost_ret (results_none rfl _ _ _) rfl ?_
        exact ⟨⟨_, rfl⟩, .inr ⟨_, HPre.out, hJx3⟩⟩
    · have e : k = m := by omega
      subst e
      clear hlt hl
      gi_wp2
      go_end0
      exact ⟨⟨_, rfl⟩, .inl ⟨_, rfl, hJs⟩⟩
theorem values_stops (F : Fence) (n : Nat) (hF : F.fn 66) (hro : F.round = none) (hn : 1 ≤ n) (Bn B0 : Nat) (o : Option Addr) (m cap : Nat) (hm : m ≤ 1000000) (f : Nat → Int)
    (w : World) (hB : Bn < w.heap.size) (hB0 : B0 ≤ w.heap.size) (hc : w.cell? ⟨Bn, 0, none⟩ = some (.slice o m cap)) (hL : Lb B0 w o m f) :
    SeqStopsK F n Tryd.prog 66 #[.pointer (some ⟨Bn, 0, none⟩)] (fun x : Int => #[Value.int .i64 x]) (Below B0) (fun ys => ys = lsf m f) (fun pre => pre <+: lsf m f) (lsf m f).length w := fun l J Jx W hW _ _ hY h0 =>
  values1_in F n hF hro hn l Bn B0 o m cap hm f J Jx hY W ((hW.cell (p := ⟨Bn, 0, none⟩) hB).trans hc) (hL.below (Joins.below_le hW hB0)) h0
set_option maxRecDepth 100000 in
set_option maxHeartbeats 2000000 in
/-- AppendSeq to nil: a slice of the call's own with all that the iterator yields. -/
theorem appseq_in (F : Fence) (n : Nat) (h3 : F.fn 78) (gf : Nat) (lb : Array Value) (hgf : F.fn gf) (hen : ∀ args (W : World), (callFunc gf args).run Tryd.prog W = .ok (.enter gf args) W) (hro : F.round = none) (hn : 3 ≤ n) (xs : List Int) (hlen : xs.length ≤ 1000) (w : World)
    (hS : ∀ W, Below w.heap.size w W → SeqStopsK F (n - 1) Tryd.prog gf lb (fun x : Int => #[Value.int .i64 x]) (Below w.heap.size) (fun ys => ys = xs) (fun pre => pre <+: xs) xs.length W) :
    CallsIn F n Tryd.prog 78 #[.slice none 0 0, .func (.func gf) #[] lb] w fun e W' => ∃ v, e = .returned v ∧ W'.ownsRow w.heap.size 3 1 v xs.length (xs.map fun x => Value.int .i64 x) ∧ (v = .slice none 0 0 ↔ xs = []) ∧ Below w.heap.size w W' := by
  have h1 : 1 ≤ n := by omega
  obtain ⟨i0, hi, hz0, hz1, hz2⟩ := info_parts infoI
  refine callsIn_of_wp_marks Tryd.func78 rfl h3 ?_ hro
  simp only [Tryd.ntmps78, List.size_toArray, List.length_cons, List.length_nil, Nat.reduceAdd, Nat.reduceSub, Array.replicate_succ, Array.replicate_zero, List.push_toArray, List.append_toArray, List.nil_append, List.cons_append]
  gi_wp2
  have bO := Boxed.new w 22 (.slice none 0 0)
  have hB0 : Below w.heap.size w (w.alloc (.cells #[.slice none 0 0] 22)) := (Below.refl _ w).alloc (Nat.le_refl _) _
  refine wpIn_rangeFunc_ownG hro h1 (gf := gf) (lb := lb) rfl hgf hen
    (hS _ hB0) belowK_t (belowK_b (by simp)) (Below.refl _ _) (fun _ => rfl)
    (fun pre W => (∃ v, Boxed W w.heap.size 22 v ∧ W.ownsRow w.heap.size 3 1 v pre.length (pre.map fun x => Value.int .i64 x) ∧ (v = .slice none 0 0 ↔ pre = [])) ∧ Below w.heap.size w W)
    (fun _ _ _ => False)
    (OwnFrom.and (Own.from (holdsRow_own w.heap.size w.heap.size 22 3 1 (fun pre : List Int => pre.length) (fun pre => pre.map fun x => Value.int .i64 x) (fun pre v => v = .slice none 0 0 ↔ pre = [])) _) (ownFrom_below (Nat.le_refl _) (by simp)))
    (fun _ _ _ _ _ hs _ _ => hs)
    ⟨⟨_, bO, World.ownsRow_nil _ _ _ _, by simp⟩, hB0⟩
    (fun x => { tmps := #[.slice none 0 0, .func (.func gf) #[] lb, .pointer (some ⟨w.heap.size, 0, none⟩), undef, .slice none 0 0, .int .i64 x, .func (.func gf) #[] lb, .int .i64 x, undef, undef, undef, undef, undef], defers := [] }) ?assign ?body ?done ?stop
  case assign =>
    intro l x W K hK
    gi_wp2
    exact hK
  case body =>
    rintro l pre x W ⟨⟨v, hv, hrow, hnil⟩, hB⟩ hlt
    have hc := hv.cell
    gi_wp2_with (gi_at_builtin; refine wpListIn_append_own _ rfl _ _ 22 rfl w.heap.size 3 i0 (.int .i64 0) 1 8 Tryd.underlying22 hi hz0 hz1 hz2 rfl (by decide) _ _ _ rfl (hrow.alloc _) ⟨W.heap.size, 0, none⟩ 1 1 [.int .i64 x] rfl rfl (cell_one_new _ _ _) (by simp [Value.oneCell']) (by unfold maxLen; omega) (by omega) (by have := hB.size; simp; omega) ?_; intro v' w1 hown' hgrow _; obtain ⟨g', cap', rfl⟩ := ownsRow_succ hown'; obtain ⟨hv1, hv2, hr2, hk2, hb2⟩ := hv.appended (by decide) hrow hB.size (Nat.le_refl _) hown' hgrow; have hc1 := hv1.cell; have hf1 := hv1.frozen)
    exact ⟨hk2.from _, hb2, ⟨_, hv2, by simpa using hr2, by simp⟩, hB.trans hb2⟩
  case done =>
    rintro D ys W hD rfl ⟨⟨v, hv, hrow, hnil⟩, hB⟩ hK
    have hc := hv.cell
    gi_wp2
    refine ⟨by simp, .inl ⟨_, _, rfl, run_takeDeferred hK, ?_⟩⟩
    exact ⟨_, results_tmp rfl _ _ _, v, rfl, ownsRow_putObj hrow _ hK rfl, hnil, hB.trans (belowK_b (w := w) (Nat.le_refl _) W D _ _ (by simp at hD; omega) hK rfl rfl)⟩
  case stop =>
    rintro D c pre W _ _ h _
    exact h.elim
theorem collect_ok (o : Option Addr) (m cap : Nat) (hm : m ≤ 1000) (f : Nat → Int) (Bn : Nat) (w : World) (hB : Bn < w.heap.size) (hc : w.cell? ⟨Bn, 0, none⟩ = some (.slice o m cap)) (hL : Lz w o m f) :
    Calls Tryd.prog 64 #[.func (.func 66) #[] #[.pointer (some ⟨Bn, 0, none⟩)]] w fun e w' => ∃ v, e = .returned v ∧ Row w' w.heap.size v (lsf m f) ∧ Below w.heap.size w w' := by
  have hlen : (lsf m f).length = m := by simp [lsf]
  have H := Lib.hid (callsIn_wide.1 (appseq_in Fence.wide 4 trivial 66 #[.pointer (some ⟨Bn, 0, none⟩)] trivial (fun args W => by kernel_rfl) rfl (by omega) (lsf m f) (by omega) w
    (fun W hW => values_stops Fence.wide 3 trivial rfl (by omega) Bn w.heap.size o m cap (by omega) f W (Nat.lt_of_lt_of_le hB hW.size) hW.size ((hW.cell (p := ⟨Bn, 0, none⟩) hB).trans hc) (hL.at_.below hW))))
  have HLen := Lib.hid hlen
  clear hc hL hlen
  go_enter Tryd.func64, Tryd.ntmps64
  go_wp2_with fail
  refine H.out.mono ?_
  rintro e w' ⟨v, rfl, hr, _, hb⟩
  have HR := Lib.hid (show Row w' w.heap.size v (lsf m f) from hr)
  have HB := Lib.hid hb
  clear hr hb
  go_wp2_with fail
  go_ret
  exact ⟨_, rfl, HR.out, HB.out⟩

end Go.Proofs.YtgppdbiimlbpjaaDoor
