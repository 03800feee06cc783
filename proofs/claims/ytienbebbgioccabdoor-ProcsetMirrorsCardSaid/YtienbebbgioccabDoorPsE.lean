/- Package procset and its specification: the subsets with a number of elements. -/
import Derived.Test.YtienbebbgioccabDoorPsD
import Derived.WalkKit
import Derived.WalkSpells
import Derived.WalkLawsBesides
import Derived.Handy
import Derived.Deep.QuietTactic
import Derived.BigQuiet
import Derived.Outline
import Derived.Laws.BitsAllLaws
import Derived.IntWalk
import Derived.Lib.SmallJoins
import Derived.Lib.Hide
import Derived.Deep.DeepCutAuto
import Derived.LoopTactic
import Derived.Deep.RegionWith
import Derived.RangeFuncFrom
namespace Go.Proofs.YtienbebbgioccabDoor
set_option linter.unusedVariables false
set_option linter.unusedSimpArgs false
open Go.RowKit Go.Shelf
attribute [local go_sem] Oper.semAt_some

/-- The subsets with k elements. -/
def cho (S : Nat) (k : Int) : List Nat := (sub S 0).filter fun x => ((num x : Nat) : Int) == k
theorem sub_lt (S : Nat) (h : S < 32) : ∀ x ∈ sub S 0, x < 32 := by
  intro x hx
  unfold sub at hx
  have := List.mem_range'.1 (List.mem_filter.1 hx).1
  omega
/-- The subsets, each with its bound. -/
def subF (S : Nat) (h : S < 32) : List (Fin 32) := (sub S 0).pmap (fun x hx => ⟨x, hx⟩) (sub_lt S h)
theorem subF_val (S : Nat) (h : S < 32) : (subF S h).map Fin.val = sub S 0 := by
  unfold subF
  rw [List.map_pmap]
  simp
def choF (k : Int) (l : List (Fin 32)) : List Nat := (l.map Fin.val).filter fun x => ((num x : Nat) : Int) == k

theorem u64_small : ∀ x : Fin 32, IntKind.u64.wrap (x.val : Int) = (x.val : Int) := by decide +kernel
set_option maxRecDepth 100000 in
set_option maxHeartbeats 4000000 in
theorem choose_in (N S : Nat) (h : SOk N S) (k : Int) (hk : 0 ≤ k ∧ k ≤ (num S : Int)) (w : World) :
    CallsIn Fence.wide 4 Tryd.prog 6 #[.int .i64 (N : Int), .int .i64 (S : Int), .int .i64 k] w (LRes (cho S k) 0 w.heap.size w) := by
  obtain ⟨i0, hi, hz0, hz1, hz2⟩ := info_parts infoI
  have HC := Lib.hid (fun w => (callsIn_wide (n := 3)).2 (size_okn N S h w))
  have HE := Lib.hid (fun w => subsets_in Fence.wide 3 trivial rfl (S : Int) w)
  have hs := h.lt
  obtain ⟨hk0, hk1⟩ := hk
  have hn5 : num S ≤ 5 := memb_le S 5
  clear h
  obtain ⟨u, hu⟩ : ∃ u, num S = u := ⟨_, rfl⟩
  rw [hu] at HC hk1 hn5
  clear hu
  refine callsIn_of_wp_marks Tryd.func6 rfl trivial ?_ rfl
  simp only [Tryd.ntmps6, List.size_toArray, List.length_cons, List.length_nil, Nat.reduceAdd, Nat.reduceSub, Array.replicate_succ, Array.replicate_zero, List.push_toArray, List.append_toArray, List.nil_append, List.cons_append]
  gi_wp2_with (first | (refine ⟨trivial, ?_⟩; gi_at_call 4; refine (HC.out _).mono ?_; rintro e w' ⟨rfl, rfl⟩) | (refine ⟨trivial, ?_⟩; gi_at_call 16; refine (HE.out _).mono ?_; rintro e w' ⟨rfl, rfl⟩))
  obtain ⟨w1, hw1⟩ : ∃ w1, w.alloc (.cells #[.int .i64 k] 3) = w1 := ⟨_, rfl⟩
  have hz : w.heap.size + 1 = w1.heap.size := by rw [← hw1]; simp
  have hkc : w1.cell? ⟨w.heap.size, 0, none⟩ = some (.int .i64 k) := by rw [← hw1]; exact (Boxed.new w 3 (.int .i64 k)).cell
  have hB1 : Below w.heap.size w w1 := by rw [← hw1]; exact (Below.refl _ w).alloc (Nat.le_refl _) _
  rw [hw1, hz]
  have hAn : w.heap.size < w1.heap.size := by omega
  obtain ⟨A, hA⟩ : ∃ A, w.heap.size = A := ⟨_, rfl⟩
  rw [hA] at hkc hAn ⊢
  have HB1 := Lib.hid hB1
  have HA := Lib.hid hA
  clear hw1 hz hB1 hA
  have bO := Boxed.new w1 26 (.slice none 0 0)
  have bN := Boxed.new (w1.alloc (.cells #[.slice none 0 0] 26)) 3 (.int .i64 (S : Int))
  rw [World.size_alloc] at bN
  have hB0 : Below w1.heap.size w1 ((w1.alloc (.cells #[.slice none 0 0] 26)).alloc (.cells #[.int .i64 (S : Int)] 3)) := ((Below.refl _ w1).alloc (Nat.le_refl _) _).alloc (by simp) _
  have hml : (subF S hs).length ≤ 32 := by
    have := sub_len S hs
    have e : (subF S hs).length = (sub S 0).length := by rw [← subF_val S hs, List.length_map]
    omega
  refine wpIn_rangeFunc_ownG rfl (by omega) (gf := 24) (lb := #[.pointer (some ⟨w1.heap.size + 1, 0, none⟩)]) rfl trivial (fun args w => by kernel_rfl)
    (subsets_stops (fun x : Fin 32 => x.val) Fence.wide 3 trivial rfl (by omega) (w1.heap.size + 1) S hs (fun A A' => A'.heap[w1.heap.size + 1]? = A.heap[w1.heap.size + 1]?) (fun A A' h => World.cell?_of_block (a := ⟨w1.heap.size + 1, 0, none⟩) h) (subF S hs) (subF_val S hs) _ (by simp) bN.cell) (fun h h' => h'.trans h) (fun W l o o' hl h h2 _ => by
      have hl' : w1.heap.size + 2 ≤ l := by simpa using hl
      exact (grownBy_putObj' W l o').block _ (by have := (Array.getElem?_eq_some_iff.1 h).1; omega) (fun e => by injection e with e; omega)) (Below.refl _ _) (fun _ => rfl)
    (fun pre W => ((∃ v, Boxed W w1.heap.size 26 v ∧ W.ownsRow (w1.heap.size + 2) 3 1 v (choF k pre).length (cellsI (choF k pre)) ∧ (v = .slice none 0 0 ↔ choF k pre = [])) ∧ w1.heap.size + 2 ≤ W.heap.size) ∧ Below w1.heap.size w1 W)
    (fun _ _ _ => False)
    (OwnFrom.and (OwnFrom.and (Own.from (holdsRow_own (w1.heap.size + 2) w1.heap.size 26 3 1 (fun pre : List (Fin 32) => (choF k pre).length) (fun pre => cellsI (choF k pre)) (fun pre v => v = .slice none 0 0 ↔ choF k pre = [])) _) (Own.from (fun s A B row hs hg hr => Nat.le_trans hs hg.size) _)) (ownFrom_below (Nat.le_refl _) (by simp; omega)))
    (fun _ _ _ _ _ hs _ _ => hs)
    ⟨⟨⟨_, bO.alloc _, World.ownsRow_nil _ _ _ _, by simp [choF]⟩, by simp⟩, hB0⟩
    (fun x => { tmps := #[.int .i64 (N : Int), .int .i64 (S : Int), .int .i64 k, undef, undef, .pointer (some ⟨A, 0, none⟩), .slice none 0 0, .int .i64 0, .int .i64 (u : Int), .int .i64 0, .pointer (some ⟨w1.heap.size, 0, none⟩), .int .i64 (x.val : Int), .tuple #[.int .i64 (u : Int), .int .i64 0], .int .i64 (N : Int), .int .i64 (S : Int), .tuple #[.int .i64 (u : Int), .int .i64 0], .int .i64 (u : Int), .int .i64 0, .int .i64 0, .bool false, undef, .int .i64 k, .bool (decide (k < 0)), .bool (decide (k < 0)), .int .i64 k, .int .i64 (u : Int), .bool (decide ((u : Int) < k)), .bool (decide (k < 0) || decide ((u : Int) < k)), .int .i64 (S : Int), .func (.func 24) #[] #[.pointer (some ⟨w1.heap.size + 1, 0, none⟩)], .int .i64 (x.val : Int), undef, undef, undef, undef, undef, undef, undef, undef, undef, undef], defers := [] }) ?assign ?body ?done ?stop
  case assign =>
    intro l x W K hK
    gi_wp2
    exact hK
  case body =>
    rintro l pre x W ⟨⟨⟨v, hv, hrow, hnil⟩, hsz⟩, hB⟩ hlt
    have hc := hv.cell
    have hkc2 := (hB.cell (p := ⟨A, 0, none⟩) hAn).trans hkc
    have HO := Lib.hid (fun w => ones_any x.val x.isLt w)
    have hx32 : (x.val : Int) < 32 := by have := x.isLt; omega
    gi_wp2
    have hmx : Tryd.prog.follows .mixedOrders = true := by kernel_rfl
    have hwr := u64_small x
    have hcl : (choF k pre).length ≤ pre.length := by
      unfold choF
      exact Nat.le_trans (List.length_filter_le _ _) (by simp)
    have hyes : (((num x.val : Nat) : Int) == k) = true → choF k (pre ++ [x]) = choF k pre ++ [x.val] := fun e => by
      unfold choF; rw [List.map_append, List.filter_append]; simp [List.filter_cons, e]
    have hnot : (((num x.val : Nat) : Int) == k) = false → choF k (pre ++ [x]) = choF k pre := fun e => by
      unfold choF; rw [List.map_append, List.filter_append]; simp [List.filter_cons, e]
    have Hyes := Lib.hid hyes
    have Hnot := Lib.hid hnot
    have kd : Below w1.heap.size W W.drew := below_dn 1 (Below.refl _ _)
    have hvd : Boxed W.drew w1.heap.size 26 v := hv
    have hszd : w1.heap.size + 2 ≤ W.drew.heap.size := hsz
    have hrowd : W.drew.ownsRow (w1.heap.size + 2) 3 1 v (choF k pre).length (cellsI (choF k pre)) := hrow
    have hBd : Below w1.heap.size w1 W.drew := hB.trans kd
    have hc2 := hvd.cell
    clear hyes hnot
    cases hb : (((num x.val : Nat) : Int) == k) with
    | true =>
      have hq := Hyes.out hb
      have Hq := Lib.hid hq
      clear hq
      gi_region_with_o (refine ⟨trivial, ?_⟩; gi_at_call 9; refine (CallsIn.inRound l (callsIn_wide.2 (HO.out _))).mono ?_; rintro e w' ⟨rfl, rfl⟩)
      all_goals gi_wp2_with (gi_at_builtin; refine wpListIn_append_own _ rfl _ _ 26 rfl (w1.heap.size + 2) 3 i0 (.int .i64 0) 1 8 Tryd.underlying26 hi hz0 hz1 hz2 rfl (by decide) _ _ _ rfl (hrowd.alloc _) ⟨W.drew.heap.size, 0, none⟩ 1 1 [.int .i64 (x.val : Int)] rfl rfl (cell_one_new _ _ _) (by simp [Value.oneCell']) (by unfold maxLen; omega) (by omega) (by simp; simp at hszd; omega) ?_; intro v' w2 hown' hgrow _; obtain ⟨g', cap', rfl⟩ := ownsRow_succ hown'; obtain ⟨hv1, hv2, hr2, hk2, hb2, hj2⟩ := appended2 hvd (by decide) hrowd hszd (by omega) hown' hgrow; have hc1 := hv1.cell; have hf1 := hv1.frozen)
      all_goals exact ⟨((KeepsOthers.drew _).trans hk2).from _, hj2 _ (by omega) (by omega), ⟨⟨_, hv2, by rw [Hq.out, cellsI_app, List.length_append]; exact hr2, by rw [Hq.out]; simp⟩, by have := hb2.size; simp at hszd this ⊢; omega⟩, hBd.trans hb2⟩
    | false =>
      have hq := Hnot.out hb
      have Hq := Lib.hid hq
      clear hq
      gi_region_with_o (refine ⟨trivial, ?_⟩; gi_at_call 9; refine (CallsIn.inRound l (callsIn_wide.2 (HO.out _))).mono ?_; rintro e w' ⟨rfl, rfl⟩)
      all_goals gi_wp2
      all_goals exact ⟨(KeepsOthers.drew _).from _, rfl, ⟨⟨v, hvd, by rw [Hq.out]; exact hrowd, by rw [Hq.out]; exact hnil⟩, hszd⟩, hBd⟩
  case done =>
    rintro D ys W hD rfl ⟨⟨⟨v, hv, hrow, hnil⟩, hsz⟩, hB⟩ hK
    have hc := hv.cell
    have hch : choF k (subF S hs) = cho S k := by unfold choF cho; rw [subF_val]
    rw [hch] at hrow
    gi_wp2
    refine ⟨by simp, .inl ⟨_, _, rfl, run_takeDeferred hK, ?_⟩⟩
    have hbk := hB.trans (belowK_b (w := w1) (Nat.le_refl _) W D _ (.deferred none) (by simp at hD; omega) hK rfl rfl)
    have e1 := HA.out
    refine ⟨.tuple #[v, .int .i64 0], ?_, v, rfl, ?_, LiesI.of (ownsRow_putObj hrow _ hK rfl)⟩
    · simp [results, Tryd.f6, go_sem]
    · exact HB1.out.trans (Joins.below_le hbk (by have := HB1.out.size; omega))
  case stop =>
    rintro D c pre W _ _ h _
    exact h.elim
end Go.Proofs.YtienbebbgioccabDoor
