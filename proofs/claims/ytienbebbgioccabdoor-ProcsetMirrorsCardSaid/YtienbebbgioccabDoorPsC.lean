/- Package procset and its specification: the least element. -/
import Derived.Test.YtienbebbgioccabDoorPsB
import Derived.WalkKit
import Derived.WalkSpells
import Derived.WalkLawsBesides
import Derived.Handy
import Derived.Deep.QuietTactic
import Derived.BigQuiet
import Derived.Outline
import Derived.Laws.BitsAllLaws
import Derived.IntWalk
import Derived.Lib.SmallJoins
import Derived.Lib.Hide
import Derived.Deep.DeepCutAuto
import Derived.LoopTactic
import Derived.Deep.RegionWith
import Derived.RangeFuncFrom
namespace Go.Proofs.YtienbebbgioccabDoor
set_option linter.unusedVariables false
set_option linter.unusedSimpArgs false
open Go.RowKit Go.Shelf
attribute [local go_sem] Oper.semAt_some

theorem cella {W : World} {a : Addr} {v : Value} (o : Obj) (h : W.cell? a = some v) : (W.alloc o).cell? a = some v := cell_kept h (World.grownBy_alloc W o none) (fun r e => by cases e)
theorem froza {W : World} {a : Addr} {v : Value} (o : Obj) (h : W.cell? a = some v) (hf : W.frozen? a = false) : (W.alloc o).frozen? a = false := (frozen_kept h (World.grownBy_alloc W o none) (fun r e => by cases e)).trans hf
/-- The least element and the error. -/
def lea (S : Nat) : Int × Int := match mem S with | [] => (0, 16) | x :: _ => ((x : Int), 0)

set_option maxRecDepth 100000 in
set_option maxHeartbeats 4000000 in
theorem least_in (N S : Nat) (h : SOk N S) (w : World) (hT : Tab w) :
    CallsIn Fence.wide 4 Tryd.prog 7 #[.int .i64 (N : Int), .int .i64 (S : Int)] w fun e W' => e = .returned (.tuple #[.int .i64 (lea S).1, .int .i64 (lea S).2]) ∧ Below w.heap.size w W' := by
  have HC := Lib.hid (fun w => (callsIn_wide (n := 3)).2 (pchk_ok N S h w))
  have HE := Lib.hid (fun w => elements_in Fence.wide 3 trivial rfl (S : Int) w)
  have hs := h.lt
  have HT := Lib.hid hT
  clear h hT
  refine callsIn_of_wp_marks Tryd.func7 rfl trivial ?_ rfl
  simp only [Tryd.ntmps7, List.size_toArray, List.length_cons, List.length_nil, Nat.reduceAdd, Nat.reduceSub, Array.replicate_succ, Array.replicate_zero, List.push_toArray, List.append_toArray, List.nil_append, List.cons_append]
  gi_wp2_with (first | (refine ⟨trivial, ?_⟩; gi_at_call 8; refine (HC.out _).mono ?_; rintro e w' ⟨rfl, rfl⟩) | (refine ⟨trivial, ?_⟩; gi_at_call 17; refine (HE.out _).mono ?_; rintro e w' ⟨rfl, rfl⟩))
  have c0 := (⟨(Boxed.new w 3 (.int .i64 0)).cell, (Boxed.new w 3 (.int .i64 0)).frozen⟩ : _ ∧ _)
  have c1 := (⟨(Boxed.new (w.alloc (.cells #[.int .i64 0] 3)) 22 (.int .i64 0)).cell, (Boxed.new (w.alloc (.cells #[.int .i64 0] 3)) 22 (.int .i64 0)).frozen⟩ : _ ∧ _)
  have c2 := (⟨(Boxed.new ((w.alloc (.cells #[.int .i64 0] 3)).alloc (.cells #[.int .i64 0] 22)) 3 (.int .i64 (S : Int))).cell, (Boxed.new ((w.alloc (.cells #[.int .i64 0] 3)).alloc (.cells #[.int .i64 0] 22)) 3 (.int .i64 (S : Int))).frozen⟩ : _ ∧ _)
  simp only [World.size_alloc] at c1 c2
  have hB0 : Below w.heap.size w (((w.alloc (.cells #[.int .i64 0] 3)).alloc (.cells #[.int .i64 0] 22)).alloc (.cells #[.int .i64 (S : Int)] 3)) := (((Below.refl _ w).alloc (Nat.le_refl _) _).alloc (by simp) _).alloc (by simp; omega) _
  have hm : (mem S).length ≤ 5 := memb_le S 5
  refine wpIn_rangeFunc_ownF rfl (by omega) (gf := 25) (lb := #[.pointer (some ⟨w.heap.size + 1 + 1, 0, none⟩)]) rfl trivial (fun args w => by kernel_rfl)
    (elements_stops (fun x : Nat => x) Fence.wide 3 trivial trivial (fun y V h1 h2 h3 => callsIn_wide.2 (tz_any y h1 h2 V h3)) rfl (by omega) (w.heap.size + 1 + 1) w.heap.size S hs HT.out.pos (mem S) (by simp) _ (by simp) c2.1 (HT.out.below hB0 HT.out.pos)) belowK_t (belowK_b (by simp; omega)) (Below.refl _ _) (fun _ => rfl)
    (fun pre W => (pre = [] ∧ (W.cell? ⟨w.heap.size, 0, none⟩ = some (.int .i64 0) ∧ W.frozen? ⟨w.heap.size, 0, none⟩ = false) ∧ W.cell? ⟨w.heap.size + 1, 0, none⟩ = some (.int .i64 0) ∧ W.frozen? ⟨w.heap.size + 1, 0, none⟩ = false) ∧ Below w.heap.size w W)
    (fun c pre W => (c = .ret ∧ ∃ x : Nat, pre = [x] ∧ W.cell? ⟨w.heap.size, 0, none⟩ = some (.int .i64 (x : Int)) ∧ W.cell? ⟨w.heap.size + 1, 0, none⟩ = some (.int .i64 0)) ∧ Below w.heap.size w W)
    (OwnFrom.and (Own.from (fun s A B row hs hg hr => ⟨hs.1, ⟨cell_kept hs.2.1.1 hg hr, (frozen_kept hs.2.1.1 hg hr).trans hs.2.1.2⟩, cell_kept hs.2.2.1 hg hr, (frozen_kept hs.2.2.1 hg hr).trans hs.2.2.2⟩) _) (ownFrom_below (Nat.le_refl _) (by simp; omega)))
    (fun c => OwnFrom.and (Own.from (fun s A B row hs hg hr => ⟨hs.1, hs.2.elim fun x hx => ⟨x, hx.1, cell_kept hx.2.1 hg hr, cell_kept hx.2.2 hg hr⟩⟩) _) (ownFrom_below (Nat.le_refl _) (by simp; omega)))
    ⟨⟨rfl, ⟨cella _ (cella _ c0.1), froza _ (cella _ c0.1) (froza _ c0.1 c0.2)⟩, cella _ c1.1, froza _ c1.1 c1.2⟩, hB0⟩
    (fun x => { tmps := #[.int .i64 (N : Int), .int .i64 (S : Int), undef, undef, .pointer (some ⟨w.heap.size, 0, none⟩), .pointer (some ⟨w.heap.size + 1, 0, none⟩), .int .i64 0, .int .i64 (x : Int), .int .i64 (N : Int), .int .i64 (S : Int), .int .i64 0, .int .i64 0, .bool false, undef, .int .i64 (S : Int), .func (.func 25) #[] #[.pointer (some ⟨w.heap.size + 1 + 1, 0, none⟩)], .int .i64 (x : Int), undef], defers := [] }) ?assign ?body ?done ?stop
  case assign =>
    intro l x W K hK
    gi_wp2
    exact hK
  case body =>
    rintro l pre x W ⟨⟨rfl, ⟨hca, hfa⟩, hcb, hfb⟩, hB⟩ _
    gi_wp2
    have hB1 := hB.setCell (p := ⟨w.heap.size, 0, none⟩) (Nat.le_refl _) (.int .i64 (x : Int))
    refine ⟨(KeepsOthers.setCell _ _ _).trans (KeepsOthers.setCell _ _ _), ⟨rfl, x, rfl, ?_, World.cell?_setCell_same' _ _ _ ?_⟩, hB1.setCell (p := ⟨w.heap.size + 1, 0, none⟩) (by simp) _⟩
    · rw [World.cell?_setCell_other]
      · exact World.cell?_setCell_same' _ _ _ (by rw [hca]; rfl)
      · simp
    · rw [World.cell?_setCell_other]
      · rw [hcb]; rfl
      · simp
  case done =>
    rintro D ys W hD rfl ⟨⟨hne, ⟨hca, hfa⟩, hcb, hfb⟩, hB⟩ hK
    have hl : lea S = (0, 16) := by unfold lea; rw [hne]
    gi_wp2
    have hK' := ((KeepsOthers.setCell W ⟨w.heap.size, 0, none⟩ (.int .i64 0)).trans (KeepsOthers.setCell _ ⟨w.heap.size + 1, 0, none⟩ (.int .i64 16))).same D _ hK rfl
    refine ⟨by simp, .inl ⟨_, _, rfl, run_takeDeferred hK', ?_⟩⟩
    have ha1 : ((W.setCell ⟨w.heap.size, 0, none⟩ (.int .i64 0)).setCell ⟨w.heap.size + 1, 0, none⟩ (.int .i64 16)).cell? ⟨w.heap.size, 0, none⟩ = some (.int .i64 0) := by
      rw [World.cell?_setCell_other]
      · exact World.cell?_setCell_same' _ _ _ (by rw [hca]; rfl)
      · simp
    have ha2 : ((W.setCell ⟨w.heap.size, 0, none⟩ (.int .i64 0)).setCell ⟨w.heap.size + 1, 0, none⟩ (.int .i64 16)).cell? ⟨w.heap.size + 1, 0, none⟩ = some (.int .i64 16) := by
      refine World.cell?_setCell_same' _ _ _ ?_
      rw [World.cell?_setCell_other]
      · rw [hcb]; rfl
      · simp
    have hc5 := cell_kept ha1 (grownBy_putObj' _ D (.deferred none)) (fun r e => by cases e; exact ⟨_, hK', rfl⟩)
    have hc6 := cell_kept ha2 (grownBy_putObj' _ D (.deferred none)) (fun r e => by cases e; exact ⟨_, hK', rfl⟩)
    refine ⟨.tuple #[.int .i64 0, .int .i64 16], ?_, by rw [hl], ((hB.setCell (p := ⟨w.heap.size, 0, none⟩) (Nat.le_refl _) _).setCell (p := ⟨w.heap.size + 1, 0, none⟩) (by simp) _).trans (belowK_b (w := w) (Nat.le_refl _) _ D _ _ (by simp at hD; omega) hK' rfl rfl)⟩
    simp [results, Tryd.f7, go_sem, hc5, hc6]
  case stop =>
    rintro D c pre W hD hpre ⟨⟨rfl, x, rfl, hca, hcb⟩, hB⟩ hK
    gi_wp2
    refine ⟨by simp, .inl ⟨_, _, rfl, run_takeDeferred hK, ?_⟩⟩
    have hc5 := cell_kept hca (grownBy_putObj' _ D (.deferred none)) (fun r e => by cases e; exact ⟨_, hK, rfl⟩)
    have hc6 := cell_kept hcb (grownBy_putObj' _ D (.deferred none)) (fun r e => by cases e; exact ⟨_, hK, rfl⟩)
    obtain ⟨tl, htl⟩ := hpre
    have hl : lea S = ((x : Int), 0) := by unfold lea; rw [← htl]; rfl
    refine ⟨.tuple #[.int .i64 (x : Int), .int .i64 0], ?_, by rw [hl], hB.trans (belowK_b (w := w) (Nat.le_refl _) W D _ _ (by simp at hD; omega) hK rfl rfl)⟩
    simp [results, Tryd.f7, go_sem, hc5, hc6]

theorem least_okn (N S : Nat) (h : SOk N S) (w : World) (hT : Tab w) : Calls Tryd.prog 7 #[.int .i64 (N : Int), .int .i64 (S : Int)] w fun e W' => e = .returned (.tuple #[.int .i64 (lea S).1, .int .i64 (lea S).2]) ∧ Below w.heap.size w W' :=
  callsIn_wide.1 (least_in N S h w hT)
theorem least_bad (n s : Int) (c : Int) (h0 : c ≠ 0) (Hc : ∀ w, Calls Tryd.prog 8 #[.int .i64 n, .int .i64 s] w fun e w' => e = .returned (.int .i64 c) ∧ w = w') (w : World) : Calls Tryd.prog 7 #[.int .i64 n, .int .i64 s] w fun e W' => e = .returned (.tuple #[.int .i64 0, .int .i64 c]) ∧ Below w.heap.size w W' := by
  have H := Lib.hid Hc
  have hb : (c != 0) = true := by simpa using h0
  clear Hc h0
  go_enter Tryd.func7, Tryd.ntmps7
  go_wp2_with fail
  refine (H.out _).mono ?_
  rintro e w' ⟨rfl, rfl⟩
  go_wp2_with fail
  refine bodyPost_ret (v := .tuple #[.int .i64 0, .int .i64 c]) (by simp [results, Tryd.results7, go_sem]) rfl ⟨rfl, ?_⟩
  have BE : Below w.heap.size w ((w.alloc (.cells #[.int .i64 0] 3)).alloc (.cells #[.int .i64 c] 22)) := ((Below.refl _ _).alloc (Nat.le_refl _) _).alloc (by simp) _
  repeat' (first | (with_reducible exact BE) | (with_reducible refine Below.setCell ?_ ?_ _) | go_size)
end Go.Proofs.YtienbebbgioccabDoor
