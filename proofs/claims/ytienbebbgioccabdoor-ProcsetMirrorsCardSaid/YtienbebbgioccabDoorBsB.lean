/- The iterators of package procset, for every loop body; and collect. -/
import Derived.Test.YtienbebbgioccabDoorBsA
import Derived.RangeFuncNested
import Derived.RangeFuncBound
import Derived.RangeFuncCalls
import Derived.RangeFuncLeaves
import Derived.RangeFuncBox
import Derived.RangeFuncFrom
import Derived.Shelf.Abstract
import Derived.Shelf.RegionOpen
import Derived.WalkKit
import Derived.OwnWalkIn
import Derived.TacticsInMore
import Derived.LoopNIn
import Derived.LoopIn
import Derived.Maps.AppendAt
namespace Go.Proofs.YtienbebbgioccabDoor
set_option linter.unusedVariables false
set_option linter.unusedSimpArgs false
open Go.RowKit Go.Shelf
attribute [local go_sem] Oper.semAt_some

/-- The elements of a set of numbers below 5. -/
def mem (s : Nat) : List Nat := (List.range 5).filter fun p => s / 2 ^ p % 2 == 1
/-- The set without its least element. -/
def nxt (y : Nat) : Nat := y &&& (y - 1)
theorem mem_step : ∀ y : Fin 32, y.val ≠ 0 → mem y.val = tz y.val :: mem (nxt y.val) ∧ nxt y.val < y.val := by decide +kernel
theorem nxt_bits : ∀ y : Fin 32, y.val ≠ 0 → bits .and .u64 (y.val : Int) ((y.val : Int) - 1) = (nxt y.val : Int) := by decide +kernel

set_option maxRecDepth 100000 in
set_option maxHeartbeats 2000000 in
theorem elements1_in {α : Type} (val : α → Nat) (F : Fence) (n : Nat) (hF : F.fn 25) (hF2 : F.fn 26) (hTz : ∀ (y : Nat) (W : World), 1 ≤ y → y < 32 → Tab W → CallsIn F (n - 1) Tryd.prog 26 #[.int .u64 (y : Int)] W fun e w' => e = .returned (.int .i64 (tz y : Int)) ∧ W = w') (hro : F.round = none) (hn : 1 ≤ n) (l Bn n₀ s : Nat) (hs : s < 32) (hn₀ : 1 < n₀) (xs : List α) (hxs : xs.map val = mem s) (J Jx : List α → World → Prop)
    (hY : ∀ pre x W, J pre W → pre.length < xs.length → YieldAt F (n - 1) Tryd.prog l #[.int .i64 (val x : Int)] W fun e W' =>
      (e = .returned (.bool true) ∧ J (pre ++ [x]) W' ∧ Below n₀ W W') ∨ (e = .returned (.bool false) ∧ Jx (pre ++ [x]) W'))
    (W : World) (hBn : W.cell? ⟨Bn, 0, none⟩ = some (.int .i64 (s : Int))) (hT : Tab W) (h0 : J [] W) :
    CallsIn F n Tryd.prog 25 #[.func (.yield l) #[] #[], .pointer (some ⟨Bn, 0, none⟩)] W fun e W' => (∃ v, e = .returned v) ∧
      ((∃ ys, ys = xs ∧ J ys W') ∨ (∃ pre, pre <+: xs ∧ Jx pre W')) := by
  refine callsIn_of_wp Tryd.func25 rfl hF ?_ hro
  simp only [Tryd.ntmps25, List.size_toArray, List.length_cons, List.length_nil, Nat.reduceAdd, Nat.reduceSub, Array.replicate_succ, Array.replicate_zero, List.push_toArray, List.append_toArray, List.nil_append, List.cons_append]
  gi_wp2
  gi_loopw [3] (fun p wr => ∃ (pre rest : List α) (y : Nat), p = .int .u64 (y : Int) ∧ y < 32 ∧ xs = pre ++ rest ∧ rest.map val = mem y ∧ J pre wr ∧ Tab wr)
    (fun p wr => (intOf p).toNat)
  case atStart =>
    exact ⟨[], xs, s, rfl, hs, rfl, hxs, h0, hT⟩
  case round =>
    obtain ⟨pre, rest, y, rfl, hy, hx, hl, hJs, hTs⟩ := hrel
    by_cases hy0 : y = 0
    · subst hy0
      have hr : rest = [] := by
        have : mem 0 = [] := by decide
        rw [this] at hl
        simpa using hl
      subst hr
      gi_wp2
      go_end0
      exact ⟨⟨_, rfl⟩, .inl ⟨pre, by simp [hx], hJs⟩⟩
    · have hst := mem_step ⟨y, hy⟩ hy0
      have hbt := nxt_bits ⟨y, hy⟩ hy0
      simp only at hst hbt
      rw [hst.1] at hl
      cases rest with
      | nil => simp at hl
      | cons x rest =>
        simp only [List.map_cons, List.cons.injEq] at hl
        obtain ⟨hv, hl2⟩ := hl
        have hne : ((y : Int) != 0) = true := by rw [bne_iff_ne]; omega
        obtain ⟨fn, tmps, assign, body, hyy, hR⟩ := hY pre x wr hJs (by rw [hx]; simp)
        rw [hv] at hyy
        have HTz := Lib.hid (hTz y wr (by omega) hy hTs)
        gi_wp2_with (gi_at_call 26; refine HTz.out.mono ?_; rintro e w' ⟨rfl, rfl⟩)
        refine hR.mono ?_
        rintro e W3 (⟨rfl, hJ3, hk3⟩ | ⟨rfl, hJx3⟩)
        · have hT3 := hTs.below hk3 hn₀
          gi_wp2
          go_roundw
          case rel => exact ⟨pre ++ [x], rest, nxt y, rfl, by omega, by simp [hx], hl2, hJ3, hT3⟩
          case measure => simp [intOf]; omega
        · gi_wp2
          refine bodyPost_ret (results_none rfl _ _ _) rfl ?_
          exact ⟨⟨_, rfl⟩, .inr ⟨pre ++ [x], ⟨rest, by simp [hx]⟩, hJx3⟩⟩

set_option maxHeartbeats 1000000 in
/-- elements(set): the set is boxed; the function value captures the box. -/
theorem elements_in (F : Fence) (n : Nat) (h : F.fn 17) (hro : F.round = none) (s : Int) (w : World) :
    CallsIn F n Tryd.prog 17 #[.int .i64 s] w fun e w' => e = .returned (.func (.func 25) #[] #[.pointer (some ⟨w.heap.size, 0, none⟩)]) ∧ w' = w.alloc (.cells #[.int .i64 s] 3) := by
  refine callsIn_of_wp Tryd.func17 rfl h ?_ hro
  simp only [Tryd.ntmps17, List.size_toArray, List.length_cons, List.length_nil, Nat.reduceAdd, Nat.reduceSub, Array.replicate_succ, Array.replicate_zero, List.push_toArray, List.append_toArray, List.nil_append, List.cons_append]
  gi_wp2
  go_ret
  exact ⟨rfl, rfl⟩
theorem subsets_in (F : Fence) (n : Nat) (h : F.fn 16) (hro : F.round = none) (s : Int) (w : World) :
    CallsIn F n Tryd.prog 16 #[.int .i64 s] w fun e w' => e = .returned (.func (.func 24) #[] #[.pointer (some ⟨w.heap.size, 0, none⟩)]) ∧ w' = w.alloc (.cells #[.int .i64 s] 3) := by
  refine callsIn_of_wp Tryd.func16 rfl h ?_ hro
  simp only [Tryd.ntmps16, List.size_toArray, List.length_cons, List.length_nil, Nat.reduceAdd, Nat.reduceSub, Array.replicate_succ, Array.replicate_zero, List.push_toArray, List.append_toArray, List.nil_append, List.cons_append]
  gi_wp2
  go_ret
  exact ⟨rfl, rfl⟩

theorem elements_stops {α : Type} (val : α → Nat) (F : Fence) (n : Nat) (hF : F.fn 25) (hF2 : F.fn 26) (hTz : ∀ (y : Nat) (W : World), 1 ≤ y → y < 32 → Tab W → CallsIn F (n - 1) Tryd.prog 26 #[.int .u64 (y : Int)] W fun e w' => e = .returned (.int .i64 (tz y : Int)) ∧ W = w') (hro : F.round = none) (hn : 1 ≤ n) (Bn n₀ s : Nat) (hs : s < 32) (hn₀ : 1 < n₀) (xs : List α) (hxs : xs.map val = mem s)
    (w : World) (hB : Bn < w.heap.size) (hc : w.cell? ⟨Bn, 0, none⟩ = some (.int .i64 (s : Int))) (hT : Tab w) :
    SeqStopsK F n Tryd.prog 25 #[.pointer (some ⟨Bn, 0, none⟩)] (fun x : α => #[Value.int .i64 (val x : Int)]) (Below n₀) (fun ys => ys = xs) (fun pre => pre <+: xs) xs.length w := fun l J Jx W hW _ _ hY h0 =>
  elements1_in val F n hF hF2 hTz hro hn l Bn n₀ s hs hn₀ xs hxs J Jx hY W ((hW.cell (p := ⟨Bn, 0, none⟩) hB).trans hc) (hT.below hW hT.pos) h0

/-- Whether x lies inside of s. -/
def good (s x : Nat) : Bool := x ||| s == s
/-- The sets inside of s from k on. -/
def sub (s k : Nat) : List Nat := (List.range' k (s + 1 - k)).filter (good s)
theorem sub_yes {s k : Nat} (hk : k ≤ s) (h : good s k = true) : sub s k = k :: sub s (k + 1) := by
  unfold sub
  rw [show s + 1 - k = (s + 1 - (k + 1)) + 1 from by omega, List.range'_succ, List.filter_cons_of_pos h]
theorem sub_no {s k : Nat} (hk : k ≤ s) (h : ¬ good s k = true) : sub s k = sub s (k + 1) := by
  unfold sub
  rw [show s + 1 - k = (s + 1 - (k + 1)) + 1 from by omega, List.range'_succ, List.filter_cons_of_neg h]
theorem sub_end {s k : Nat} (h : s < k) : sub s k = [] := by
  unfold sub
  rw [show s + 1 - k = 0 from by omega]; rfl
theorem good_bits : ∀ s : Fin 32, ∀ x : Fin 32, (bits .andNot .i64 (x.val : Int) (s.val : Int) == 0) = good s.val x.val := by decide +kernel

set_option maxRecDepth 100000 in
set_option maxHeartbeats 2000000 in
theorem subsets1_in {α : Type} (val : α → Nat) (F : Fence) (n : Nat) (hF : F.fn 24) (hro : F.round = none) (hn : 1 ≤ n) (l Bn s : Nat) (hs : s < 32) (Kp : World → World → Prop) (hKp : ∀ W W', Kp W W' → W'.cell? ⟨Bn, 0, none⟩ = W.cell? ⟨Bn, 0, none⟩) (xs : List α) (hxs : xs.map val = sub s 0) (J Jx : List α → World → Prop)
    (hY : ∀ pre x W, J pre W → pre.length < xs.length → YieldAt F (n - 1) Tryd.prog l #[.int .i64 (val x : Int)] W fun e W' =>
      (e = .returned (.bool true) ∧ J (pre ++ [x]) W' ∧ Kp W W') ∨ (e = .returned (.bool false) ∧ Jx (pre ++ [x]) W'))
    (W : World) (hBn : W.cell? ⟨Bn, 0, none⟩ = some (.int .i64 (s : Int))) (h0 : J [] W) :
    CallsIn F n Tryd.prog 24 #[.func (.yield l) #[] #[], .pointer (some ⟨Bn, 0, none⟩)] W fun e W' => (∃ v, e = .returned v) ∧
      ((∃ ys, ys = xs ∧ J ys W') ∨ (∃ pre, pre <+: xs ∧ Jx pre W')) := by
  refine callsIn_of_wp Tryd.func24 rfl hF ?_ hro
  simp only [Tryd.ntmps24, List.size_toArray, List.length_cons, List.length_nil, Nat.reduceAdd, Nat.reduceSub, Array.replicate_succ, Array.replicate_zero, List.push_toArray, List.append_toArray, List.nil_append, List.cons_append]
  gi_wp2
  gi_loopw [3] (fun p wr => ∃ (pre rest : List α) (k : Nat), p = .int .i64 (k : Int) ∧ k ≤ s + 1 ∧ xs = pre ++ rest ∧ rest.map val = sub s k ∧ J pre wr ∧ wr.cell? ⟨Bn, 0, none⟩ = some (.int .i64 (s : Int)))
    (fun p wr => s + 1 - (intOf p).toNat)
  case atStart =>
    exact ⟨[], xs, 0, rfl, by omega, rfl, hxs, h0, hBn⟩
  case round =>
    clear hBn
    obtain ⟨pre, rest, k, rfl, hk, hx, hl, hJs, hBn⟩ := hrel
    by_cases hks : k ≤ s
    · have hgb := good_bits ⟨s, hs⟩ ⟨k, by omega⟩
      simp only at hgb
      by_cases hg : good s k = true
      · rw [hg] at hgb
        rw [sub_yes hks hg] at hl
        cases rest with
        | nil => simp at hl
        | cons x rest =>
          simp only [List.map_cons, List.cons.injEq] at hl
          obtain ⟨hv, hl2⟩ := hl
          obtain ⟨fn, tmps, assign, body, hyy, hR⟩ := hY pre x wr hJs (by rw [hx]; simp)
          rw [hv] at hyy
          clear hg
          gi_wp2
          refine hR.mono ?_
          rintro e W3 (⟨rfl, hJ3, hk3⟩ | ⟨rfl, hJx3⟩)
          · have hB3 := (hKp _ _ hk3).trans hBn
            gi_wp2
            go_roundw
            case rel => exact ⟨pre ++ [x], rest, k + 1, by go_num, by omega, by simp [hx], hl2, hJ3, hB3⟩
            case measure => simp [intOf]; omega
          · gi_wp2
            refine bodyPost_ret (results_none rfl _ _ _) rfl ?_
            exact ⟨⟨_, rfl⟩, .inr ⟨pre ++ [x], ⟨rest, by simp [hx]⟩, hJx3⟩⟩
      · rw [sub_no hks hg] at hl
        rw [show good s k = false from by simpa using hg] at hgb
        clear hg
        gi_wp2
        refine ⟨fun _ h => (by cases h), ?_⟩
        gi_wp2
        go_roundw
        case rel => exact ⟨pre, rest, k + 1, by go_num, by omega, hx, hl, hJs, hBn⟩
        case measure => simp [intOf]; omega
    · rw [sub_end (by omega)] at hl
      have hr : rest = [] := by simpa using hl
      subst hr
      gi_wp2
      go_end0
      exact ⟨⟨_, rfl⟩, .inl ⟨pre, by simp [hx], hJs⟩⟩
theorem subsets_stops {α : Type} (val : α → Nat) (F : Fence) (n : Nat) (hF : F.fn 24) (hro : F.round = none) (hn : 1 ≤ n) (Bn s : Nat) (hs : s < 32) (Kp : World → World → Prop) (hKp : ∀ W W', Kp W W' → W'.cell? ⟨Bn, 0, none⟩ = W.cell? ⟨Bn, 0, none⟩) (xs : List α) (hxs : xs.map val = sub s 0)
    (w : World) (hB : Bn < w.heap.size) (hc : w.cell? ⟨Bn, 0, none⟩ = some (.int .i64 (s : Int))) :
    SeqStopsK F n Tryd.prog 24 #[.pointer (some ⟨Bn, 0, none⟩)] (fun x : α => #[Value.int .i64 (val x : Int)]) Kp (fun ys => ys = xs) (fun pre => pre <+: xs) xs.length w := fun l J Jx W hW _ _ hY h0 =>
  subsets1_in val F n hF hro hn l Bn s hs Kp hKp xs hxs J Jx hY W ((hW.cell (p := ⟨Bn, 0, none⟩) hB).trans hc) h0

/-- What an append to a slice in a box leaves, the row lying behind the box. -/
theorem appended2 {W w1 : World} {n₁ B : Nat} {t e : TypeId} {size : Nat} {v v' : Value} {k m : Nat} {xs ys : List Value} {tmp : Obj}
    (hv : Boxed W B t v) (hte : t ≠ e) (hrow : W.ownsRow n₁ e size v k xs) (hn : n₁ ≤ W.heap.size) (hB : B < n₁)
    (hown' : w1.ownsRow n₁ e size v' m ys) (hgrow : (W.alloc tmp).grownBy w1 v.ownBlock) :
    Boxed w1 B t v ∧ Boxed (w1.setCell ⟨B, 0, none⟩ v') B t v' ∧ (w1.setCell ⟨B, 0, none⟩ v').ownsRow n₁ e size v' m ys ∧ KeepsOthers W (w1.setCell ⟨B, 0, none⟩ v') ∧ Below B W (w1.setCell ⟨B, 0, none⟩ v') ∧ ∀ j, j < n₁ → j ≠ B → (w1.setCell ⟨B, 0, none⟩ v').heap[j]? = W.heap[j]? := by
  have hlo : W.ownsRow B e size v k xs := ⟨hrow.1, hrow.2.elim .inl fun ⟨g, cap, cur, h1, h2, h3⟩ => .inr ⟨g, cap, cur, h1, by omega, h3⟩⟩
  have hlo' : w1.ownsRow B e size v' m ys := ⟨hown'.1, hown'.2.elim .inl fun ⟨g, cap, cur, h1, h2, h3⟩ => .inr ⟨g, cap, cur, h1, by omega, h3⟩⟩
  obtain ⟨a1, a2, _, a4, a5⟩ := hv.appended hte hlo (by omega) (Nat.le_refl B) hlo' hgrow
  refine ⟨a1, a2, hown'.kept (grownBy_setCell' w1 B v') (.inr (a1.not_row hte hown').symm), a4, a5, fun j hj hne => ?_⟩
  rw [Below.heap_setCell w1 ⟨B, 0, none⟩ v' j hne]
  rw [hgrow.block j (by simp; omega) (fun e => by have := (hrow.lt j e.symm).1; omega)]
  exact (World.grownBy_alloc W tmp none).block j (by omega) (by simp)

theorem infoI : (Tryd.prog.info? 3).map (fun i => (i.zero, i.size, i.bytes)) = some (some (.int .i64 0), 1, 8) := by kernel_rfl

set_option maxRecDepth 100000 in
set_option maxHeartbeats 2000000 in
/-- collect: a slice of the call's own with all that the iterator yields. -/
theorem collect_in {α : Type} (val : α → Nat) (F : Fence) (n : Nat) (h3 : F.fn 20) (gf : Nat) (lb : Array Value) (hgf : F.fn gf) (hen : ∀ args (W : World), (callFunc gf args).run Tryd.prog W = .ok (.enter gf args) W) (hro : F.round = none) (hn : 3 ≤ n) (xs : List α) (hlen : xs.length ≤ 1000) (w : World)
    (hS : ∀ W, Below w.heap.size w W → SeqStopsK F (n - 1) Tryd.prog gf lb (fun x : α => #[Value.int .i64 (val x : Int)]) (Below w.heap.size) (fun ys => ys = xs) (fun pre => pre <+: xs) xs.length W) :
    CallsIn F n Tryd.prog 20 #[.func (.func gf) #[] lb] w fun e W' => ∃ v, e = .returned v ∧ W'.ownsRow w.heap.size 3 1 v xs.length (xs.map fun x => Value.int .i64 (val x : Int)) ∧ (v = .slice none 0 0 ↔ xs = []) ∧ Below w.heap.size w W' := by
  have h1 : 1 ≤ n := by omega
  obtain ⟨i0, hi, hz0, hz1, hz2⟩ := info_parts infoI
  refine callsIn_of_wp_marks Tryd.func20 rfl h3 ?_ hro
  simp only [Tryd.ntmps20, List.size_toArray, List.length_cons, List.length_nil, Nat.reduceAdd, Nat.reduceSub, Array.replicate_succ, Array.replicate_zero, List.push_toArray, List.append_toArray, List.nil_append, List.cons_append]
  gi_wp2
  have bO := Boxed.new w 26 (.slice none 0 0)
  have hB0 : Below w.heap.size w (w.alloc (.cells #[.slice none 0 0] 26)) := (Below.refl _ w).alloc (Nat.le_refl _) _
  refine wpIn_rangeFunc_ownG hro h1 (gf := gf) (lb := lb) rfl hgf hen
    (hS _ hB0) belowK_t (belowK_b (by simp)) (Below.refl _ _) (fun _ => rfl)
    (fun pre W => (∃ v, Boxed W w.heap.size 26 v ∧ W.ownsRow w.heap.size 3 1 v pre.length (pre.map fun x => Value.int .i64 (val x : Int)) ∧ (v = .slice none 0 0 ↔ pre = [])) ∧ Below w.heap.size w W)
    (fun _ _ _ => False)
    (OwnFrom.and (Own.from (holdsRow_own w.heap.size w.heap.size 26 3 1 (fun pre : List α => pre.length) (fun pre => pre.map fun x => Value.int .i64 (val x : Int)) (fun pre v => v = .slice none 0 0 ↔ pre = [])) _) (ownFrom_below (Nat.le_refl _) (by simp)))
    (fun _ _ _ _ _ hs _ _ => hs)
    ⟨⟨_, bO, World.ownsRow_nil _ _ _ _, by simp⟩, hB0⟩
    (fun x => { tmps := #[.func (.func gf) #[] lb, undef, .slice none 0 0, .pointer (some ⟨w.heap.size, 0, none⟩), .int .i64 (val x : Int), .func (.func gf) #[] lb, .int .i64 (val x : Int), undef, undef, undef, undef, undef], defers := [] }) ?assign ?body ?done ?stop
  case assign =>
    intro l x W K hK
    gi_wp2
    exact hK
  case body =>
    rintro l pre x W ⟨⟨v, hv, hrow, hnil⟩, hB⟩ hlt
    have hc := hv.cell
    gi_wp2_with (gi_at_builtin; refine wpListIn_append_own _ rfl _ _ 26 rfl w.heap.size 3 i0 (.int .i64 0) 1 8 Tryd.underlying26 hi hz0 hz1 hz2 rfl (by decide) _ _ _ rfl (hrow.alloc _) ⟨W.heap.size, 0, none⟩ 1 1 [.int .i64 (val x : Int)] rfl rfl (cell_one_new _ _ _) (by simp [Value.oneCell']) (by unfold maxLen; omega) (by omega) (by have := hB.size; simp; omega) ?_; intro v' w1 hown' hgrow _; obtain ⟨g', cap', rfl⟩ := ownsRow_succ hown'; obtain ⟨hv1, hv2, hr2, hk2, hb2⟩ := hv.appended (by decide) hrow hB.size (Nat.le_refl _) hown' hgrow; have hc1 := hv1.cell; have hf1 := hv1.frozen)
    exact ⟨hk2.from _, hb2, ⟨_, hv2, by simpa using hr2, by simp⟩, hB.trans hb2⟩
  case done =>
    rintro D ys W hD rfl ⟨⟨v, hv, hrow, hnil⟩, hB⟩ hK
    have hc := hv.cell
    gi_wp2
    refine ⟨by simp, .inl ⟨_, _, rfl, run_takeDeferred hK, ?_⟩⟩
    exact ⟨_, results_tmp rfl _ _ _, v, rfl, ownsRow_putObj hrow _ hK rfl, hnil, hB.trans (belowK_b (w := w) (Nat.le_refl _) W D _ _ (by simp at hD; omega) hK rfl rfl)⟩
  case stop =>
    rintro D c pre W _ _ h _
    exact h.elim
end Go.Proofs.YtienbebbgioccabDoor
