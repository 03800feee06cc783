/- The specification's Reduced. -/
import Derived.Test.YtbefkngeffpokaaDoorMxJ
import Derived.Test.YtbefkngeffpokaaDoorMxQ
import Derived.Test.YtbefkngeffpokaaDoorMxU
import Derived.WalkKit
import Derived.WalkSpells
import Derived.WalkLawsBesides
import Derived.Handy
import Derived.Deep.QuietTactic
import Derived.BigQuiet
import Derived.Outline
import Derived.Laws.BitsAllLaws
import Derived.IntWalk
import Derived.Lib.SmallJoins
import Derived.Lib.Hide
import Derived.Deep.DeepCutAuto
import Derived.LoopTactic
import Derived.Deep.RegionWith
import Derived.Laws.CopyOwn
import Derived.Maps.OwnOps
import Derived.Maps.OwnSet
import Derived.Laws.OwnMore
import Derived.Maps.AppendAt
import Derived.RangeFuncNested
import Derived.RangeFuncBound
import Derived.RangeFuncCalls
import Derived.RangeFuncLeaves
import Derived.RangeFuncBox
import Derived.RangeFuncFrom
import Derived.Shelf.Abstract
import Derived.Shelf.RegionOpen
import Derived.OwnWalkIn
import Derived.TacticsInMore
import Derived.LoopNIn
import Derived.LoopIn
import Derived.Deep.RegionHeld3
import Derived.RegionTactic
import Derived.ChangeAlike
namespace Go.Proofs.YtbefkngeffpokaaDoor
set_option linter.unusedVariables false
set_option linter.unusedSimpArgs false
open Go.RowKit


/-- A row of rows of the call's own, from R on: row i is r i, and none lies in the row itself. -/
def Gr (w : World) (R : Nat) (A : Nat → Prop) (o : Option Addr) (K C : Nat) (r : Nat → Nat) : Prop := 0 < K → ∃ g cur, o = some ⟨g, 0, none⟩ ∧ R ≤ g ∧ Box w g cur 25 ∧ ∀ i, i < K → ∃ oc cap, cur[i]? = some (.slice oc (el C (r i)).length cap) ∧ Lz w oc (el C (r i)).length (lz (el C (r i))) ∧ (0 < (el C (r i)).length → ∀ b off, oc = some ⟨b, off, none⟩ → b ≠ g ∧ A b)
theorem Gr.mx {w : World} {R K C : Nat} {A : Nat → Prop} {o : Option Addr} {r : Nat → Nat} (h : Gr w R A o K C r) : Mx w o K C r := fun hK => by
  obtain ⟨g, cur, e, _, hb, hc⟩ := h hK
  refine ⟨g, 0, e, hb.lt, fun i hi => ?_⟩
  obtain ⟨oc, cap, h1, h2, _⟩ := hc i hi
  refine ⟨oc, cap, ?_, ?_⟩
  · rw [ints_len, hb.cell, Nat.zero_add]; exact h1
  · rw [ints_len]; exact h2.congr fun j _ => (ints_at _ j).symm
theorem Gr.below {w W : World} {R K C : Nat} {A : Nat → Prop} {o : Option Addr} {r : Nat → Nat} (h : Gr w R A o K C r) (hb : Below w.heap.size w W) : Gr W R A o K C r := fun hK => by
  obtain ⟨g, cur, e, hR, hbx, hc⟩ := h hK
  refine ⟨g, cur, e, hR, hbx.below hb hbx.lt, fun i hi => ?_⟩
  obtain ⟨oc, cap, h1, h2, h3⟩ := hc i hi
  exact ⟨oc, cap, h1, h2.below hb, h3⟩
theorem Gr.congr {w : World} {R K C : Nat} {A : Nat → Prop} {o : Option Addr} {r s : Nat → Nat} (h : Gr w R A o K C r) (e : ∀ i, i < K → r i = s i) : Gr w R A o K C s := fun hK => by
  obtain ⟨g, cur, e1, hR, hbx, hc⟩ := h hK
  refine ⟨g, cur, e1, hR, hbx, fun i hi => ?_⟩
  rw [← e i hi]
  exact hc i hi
/-- A row is written anew. -/
theorem Gr.set {w : World} {R K C g i y cap : Nat} {A : Nat → Prop} {oc : Option Addr} {r : Nat → Nat} (h : Gr w R A (some ⟨g, 0, none⟩) K C r) (hi : i < K) (hl : Lz w oc (el C y).length (lz (el C y))) (hne : 0 < (el C y).length → ∀ b off, oc = some ⟨b, off, none⟩ → b ≠ g ∧ A b) : Gr (w.setCell ⟨g, i, none⟩ (.slice oc (el C y).length cap)) R A (some ⟨g, 0, none⟩) K C (upd r i y) := fun hK => by
  obtain ⟨g', cur, e1, hR, hbx, hc⟩ := h hK
  cases e1
  have hkeep : ∀ {n : Nat} {f : Nat → Int} {o : Option Addr}, Lz w o n f → (0 < n → ∀ b off, o = some ⟨b, off, none⟩ → b ≠ g) → Lz (w.setCell ⟨g, i, none⟩ (.slice oc (el C y).length cap)) o n f := fun {n f o} hz hn hpos => by
    obtain ⟨b, off, e2, hb, hcell⟩ := hz hpos
    refine ⟨b, off, e2, by simpa using hb, fun j hj => ?_⟩
    rw [World.cell?_of_block (w := w) (a := ⟨b, off + j, none⟩) (Below.heap_setCell w ⟨g, i, none⟩ _ b (hn hpos b off e2))]
    exact hcell j hj
  refine ⟨g, cur.setIfInBounds i (.slice oc (el C y).length cap), rfl, hR, hbx.set i _, fun j hj => ?_⟩
  rw [Array.getElem?_setIfInBounds]
  by_cases e : i = j
  · subst e
    have hsz : i < cur.size := by
      obtain ⟨oc', cap', h1, _⟩ := hc i hi
      exact (Array.getElem?_eq_some_iff.1 h1).1
    rw [if_pos rfl, if_pos hsz, upd_at]
    exact ⟨oc, cap, rfl, hkeep hl (fun hp b off e => (hne hp b off e).1), hne⟩
  · rw [if_neg e, upd_ne (fun g => e g.symm)]
    obtain ⟨oc', cap', h1, h2, h3⟩ := hc j hj
    exact ⟨oc', cap', h1, hkeep h2 (fun hp b off e => (h3 hp b off e).1), h3⟩
theorem Gr.weak {w : World} {R K C : Nat} {A A' : Nat → Prop} {o : Option Addr} {r : Nat → Nat} (h : Gr w R A o K C r) (hA : ∀ b, A b → A' b) : Gr w R A' o K C r := fun hK => by
  obtain ⟨g, cur, e1, hR, hbx, hc⟩ := h hK
  refine ⟨g, cur, e1, hR, hbx, fun i hi => ?_⟩
  obtain ⟨oc, cap, h1, h2, h3⟩ := hc i hi
  exact ⟨oc, cap, h1, h2, fun hp b off e => ⟨(h3 hp b off e).1, hA b (h3 hp b off e).2⟩⟩
theorem Gr.le {w : World} {R R' K C : Nat} {A : Nat → Prop} {o : Option Addr} {r : Nat → Nat} (h : Gr w R A o K C r) (hR : R' ≤ R) : Gr w R' A o K C r := fun hK => by
  obtain ⟨g, cur, e1, h0, hbx, hc⟩ := h hK
  exact ⟨g, cur, e1, by omega, hbx, hc⟩
/-- Another block is written. -/
theorem Gr.other {w : World} {R K C Z i : Nat} {A : Nat → Prop} {o : Option Addr} {r : Nat → Nat} (h : Gr w R A o K C r) (hZ : Z < R) (hA : ∀ b, A b → b ≠ Z) (v : Value) : Gr (w.setCell ⟨Z, i, none⟩ v) R A o K C r := fun hK => by
  obtain ⟨g, cur, e1, hR, hbx, hc⟩ := h hK
  refine ⟨g, cur, e1, hR, hbx.setOther (by omega) v, fun j hj => ?_⟩
  obtain ⟨oc, cap, h1, h2, h3⟩ := hc j hj
  refine ⟨oc, cap, h1, fun hpos => ?_, h3⟩
  obtain ⟨b, off, e2, hb, hcell⟩ := h2 hpos
  refine ⟨b, off, e2, by simpa using hb, fun k hk => ?_⟩
  rw [World.cell?_of_block (w := w) (a := ⟨b, off + k, none⟩) (Below.heap_setCell w ⟨Z, i, none⟩ _ b (hA b (h3 hpos b off e2).2))]
  exact hcell k hk
/-- Rows that lie somewhere. -/
def Gs (w : World) (A : Nat → Prop) (o : Option Addr) (n C : Nat) (r : Nat → Nat) : Prop := 0 < n → ∃ b off, o = some ⟨b, off, none⟩ ∧ b < w.heap.size ∧ ∀ i, i < n → ∃ oc cap, w.cell? ⟨b, off + i, none⟩ = some (.slice oc (el C (r i)).length cap) ∧ Lz w oc (el C (r i)).length (lz (el C (r i))) ∧ (0 < (el C (r i)).length → ∀ b' off', oc = some ⟨b', off', none⟩ → A b')
theorem Mx.gs {w W : World} {o : Option Addr} {n C : Nat} {r : Nat → Nat} (h : Mx w o n C r) (hb : Below w.heap.size w W) : Gs W (fun b => b < w.heap.size) o n C r := fun h0 => by
  obtain ⟨b, off, e, hlt, hc⟩ := h h0
  refine ⟨b, off, e, by have := hb.size; omega, fun i hi => ?_⟩
  obtain ⟨oc, cap, h1, h2⟩ := hc i hi
  rw [ints_len] at h1 h2
  have h3 : Lz w oc (el C (r i)).length (lz (el C (r i))) := h2.congr fun j _ => ints_at _ j
  exact ⟨oc, cap, (hb.cell (p := ⟨b, off + i, none⟩) hlt).trans h1, h3.below hb, fun hpos b' off' e' => h3.blk hpos e'⟩
theorem Gr.gs {w W : World} {R K n C : Nat} {A : Nat → Prop} {o : Option Addr} {r : Nat → Nat} (h : Gr w R A o K C r) (hn : n ≤ K) (hb : Below w.heap.size w W) : Gs W (fun b => b < w.heap.size ∧ A b) o n C r := fun h0 => by
  obtain ⟨g, cur, e1, hR, hbx, hc⟩ := h (by omega)
  refine ⟨g, 0, e1, by have := hb.size; have := hbx.lt; omega, fun i hi => ?_⟩
  obtain ⟨oc, cap, h1, h2, h3⟩ := hc i (by omega)
  exact ⟨oc, cap, by rw [Nat.zero_add]; exact (hb.cell (p := ⟨g, i, none⟩) hbx.lt).trans ((hbx.cell i).trans h1), h2.below hb, fun hpos b' off' e' => ⟨h2.blk hpos e', (h3 hpos b' off' e').2⟩⟩
theorem Gs.below {w W : World} {A : Nat → Prop} {o : Option Addr} {n C : Nat} {r : Nat → Nat} (h : Gs w A o n C r) (hb : Below w.heap.size w W) : Gs W A o n C r := fun h0 => by
  obtain ⟨b, off, e, hlt, hc⟩ := h h0
  refine ⟨b, off, e, by have := hb.size; omega, fun i hi => ?_⟩
  obtain ⟨oc, cap, h1, h2, h3⟩ := hc i hi
  exact ⟨oc, cap, (hb.cell (p := ⟨b, off + i, none⟩) hlt).trans h1, h2.below hb, h3⟩
/-- A row of rows from R on, whose rows lie ahead of R0 or from R on. -/
def Mf (R0 R : Nat) (w : World) (o : Option Addr) (n C : Nat) (r : Nat → Nat) : Prop := 0 < n → ∃ b off, o = some ⟨b, off, none⟩ ∧ R ≤ b ∧ b < w.heap.size ∧ ∀ i, i < n → ∃ oc cap, w.cell? ⟨b, off + i, none⟩ = some (.slice oc (el C (r i)).length cap) ∧ Lz w oc (el C (r i)).length (lz (el C (r i))) ∧ (0 < (el C (r i)).length → ∀ b' off', oc = some ⟨b', off', none⟩ → b' < R0 ∨ R ≤ b')
theorem Mf.mx {R0 R : Nat} {w : World} {o : Option Addr} {n C : Nat} {r : Nat → Nat} (h : Mf R0 R w o n C r) : Mx w o n C r := fun h0 => by
  obtain ⟨b, off, e, _, hlt, hc⟩ := h h0
  refine ⟨b, off, e, hlt, fun i hi => ?_⟩
  obtain ⟨oc, cap, h1, h2, _⟩ := hc i hi
  exact ⟨oc, cap, by rw [ints_len]; exact h1, by rw [ints_len]; exact h2.congr fun j _ => (ints_at _ j).symm⟩
theorem Mf.other {R0 R Z i : Nat} {w : World} {o : Option Addr} {n C : Nat} {r : Nat → Nat} (h : Mf R0 R w o n C r) (h1 : R0 ≤ Z) (h2 : Z < R) (v : Value) : Mf R0 R (w.setCell ⟨Z, i, none⟩ v) o n C r := fun h0 => by
  obtain ⟨b, off, e, hR, hlt, hc⟩ := h h0
  refine ⟨b, off, e, hR, by simpa using hlt, fun j hj => ?_⟩
  obtain ⟨oc, cap, h3, h4, h5⟩ := hc j hj
  refine ⟨oc, cap, ?_, fun hpos => ?_, h5⟩
  · rw [World.cell?_of_block (w := w) (a := ⟨b, off + j, none⟩) (Below.heap_setCell w ⟨Z, i, none⟩ _ b (by show b ≠ Z; omega))]
    exact h3
  · obtain ⟨b', off', e2, hb, hcell⟩ := h4 hpos
    refine ⟨b', off', e2, by simpa using hb, fun k hk => ?_⟩
    rw [World.cell?_of_block (w := w) (a := ⟨b', off' + k, none⟩) (Below.heap_setCell w ⟨Z, i, none⟩ _ b' (by have := h5 hpos b' off' e2; show b' ≠ Z; omega))]
    exact hcell k hk
theorem Mf.congr {R0 R : Nat} {w : World} {o : Option Addr} {n C : Nat} {r s : Nat → Nat} (h : Mf R0 R w o n C r) (e : ∀ i, i < n → r i = s i) : Mf R0 R w o n C s := fun h0 => by
  obtain ⟨b, off, e1, hR, hlt, hc⟩ := h h0
  exact ⟨b, off, e1, hR, hlt, fun i hi => by rw [← e i hi]; exact hc i hi⟩
theorem Mf.le {R0 R R' : Nat} {w : World} {o : Option Addr} {n C : Nat} {r : Nat → Nat} (h : Mf R0 R w o n C r) (hR : R' ≤ R) : Mf R0 R' w o n C r := fun h0 => by
  obtain ⟨b, off, e1, hR2, hlt, hc⟩ := h h0
  refine ⟨b, off, e1, by omega, hlt, fun i hi => ?_⟩
  obtain ⟨oc, cap, h3, h4, h5⟩ := hc i hi
  exact ⟨oc, cap, h3, h4, fun hp b' off' e => by have := h5 hp b' off' e; omega⟩
theorem Gr.mf {w : World} {R R' R0 K C : Nat} {A : Nat → Prop} {o : Option Addr} {r : Nat → Nat} (h : Gr w R A o K C r) (hR : R' ≤ R) (hA : ∀ b, A b → b < R0 ∨ R' ≤ b) : Mf R0 R' w o K C r := fun h0 => by
  obtain ⟨g, cur, e1, h1, hbx, hc⟩ := h h0
  refine ⟨g, 0, e1, by omega, hbx.lt, fun i hi => ?_⟩
  obtain ⟨oc, cap, h2, h3, h4⟩ := hc i hi
  exact ⟨oc, cap, by rw [Nat.zero_add, hbx.cell]; exact h2, h3, fun hp b off e => hA b (h4 hp b off e).2⟩
/-- A row as it lies there. -/
theorem Gr.at_ {w : World} {R K C g i : Nat} {A : Nat → Prop} {r : Nat → Nat} (h : Gr w R A (some ⟨g, 0, none⟩) K C r) (hi : i < K) : ∃ oc cap, w.cell? ⟨g, i, none⟩ = some (.slice oc (el C (r i)).length cap) ∧ Lz w oc (el C (r i)).length (lz (el C (r i))) ∧ (0 < (el C (r i)).length → ∀ b off, oc = some ⟨b, off, none⟩ → b ≠ g ∧ A b) ∧ R ≤ g ∧ w.frozen? ⟨g, i, none⟩ = false ∧ g < w.heap.size := by
  obtain ⟨g', cur, e1, hR, hbx, hc⟩ := h (by omega)
  cases e1
  obtain ⟨oc, cap, h1, h2, h3⟩ := hc i hi
  exact ⟨oc, cap, by rw [hbx.cell]; exact h1, h2, h3, hR, hbx.open_ i, hbx.lt⟩
theorem addr_add (b o k : Nat) : (⟨b, o, none⟩ : Addr).add k = ⟨b, o + k, none⟩ := by
  by_cases h : k = 0
  · subst h; simp [Addr.add]
  · simp [Addr.add, h]
/-- Rows are appended to nothing: a row of rows of the call's own. -/
theorem app_rows (n C : Nat) (hn : n ≤ 1000) (r : Nat → Nat) (o : Option Addr) (cap : Nat) (W : World) (A : Nat → Prop) (hM : Gs W A o n C r) : ∃ o' cap' w1, (Builtin.append_ #[22, 22] 22 #[.slice none 0 0, .slice o n cap]).run Tryd.prog W = .ok (.slice o' n cap') w1 ∧ Gr w1 W.heap.size A o' n C r ∧ Below W.heap.size W w1 ∧ n ≤ cap' := by
  obtain ⟨i0, hi, hz0, hz1, hz2⟩ := info_parts infoL
  by_cases h0 : n = 0
  · subst h0
    refine ⟨none, 0, W, ?_, fun h => absurd h (Nat.lt_irrefl _), Below.refl _ _, Nat.le_refl _⟩
    cases o <;> simp [Builtin.append_, run_underlying Tryd.underlying22, sizeOf, typeInfo, hi, storeCells, Builtin.lenOf, Builtin.firstCells, loadCells, loadCellsFrom]
  · obtain ⟨b, off, rfl, hb, hc⟩ := hM (by omega)
    have hv : ∃ u : Nat → Value, ∀ i, i < n → W.cell? ⟨b, off + i, none⟩ = some (u i) ∧ (u i).oneCell' = true ∧ ∃ oc cap, u i = .slice oc (el C (r i)).length cap ∧ Lz W oc (el C (r i)).length (lz (el C (r i))) ∧ (0 < (el C (r i)).length → ∀ b' off', oc = some ⟨b', off', none⟩ → A b') := by
      have h1 : ∀ i, ∃ v : Value, i < n → W.cell? ⟨b, off + i, none⟩ = some v ∧ v.oneCell' = true ∧ ∃ oc cap, v = .slice oc (el C (r i)).length cap ∧ Lz W oc (el C (r i)).length (lz (el C (r i))) ∧ (0 < (el C (r i)).length → ∀ b' off', oc = some ⟨b', off', none⟩ → A b') := fun i => by
        by_cases hi : i < n
        · obtain ⟨oc, cc, h2, h3, h4⟩ := hc i hi
          exact ⟨_, fun _ => ⟨h2, by simp [Value.oneCell'], oc, cc, rfl, h3, h4⟩⟩
        · exact ⟨.bool false, fun h => absurd h hi⟩
      obtain ⟨u, hu⟩ := Classical.axiomOfChoice h1
      exact ⟨u, hu⟩
    obtain ⟨u, hu⟩ := hv
    have hl : ((List.range n).map u).length = n * 1 := by simp
    obtain ⟨v', w', hr, hown, hgrow, _, hat⟩ := run_append_own_at (P := Tryd.prog) W W.heap.size 22 22 25 i0 (.slice none 0 0) 1 24 Tryd.underlying22 hi hz0 hz1 hz2 rfl (by decide) (.slice none 0 0) 0 [] (World.ownsRow_nil _ _ _ _) ⟨b, off, none⟩ n cap ((List.range n).map u) hl (fun j x hx => by
      rw [List.getElem?_map] at hx
      by_cases hj : j < n
      · rw [List.getElem?_range hj] at hx
        simp at hx
        rw [addr_add, ← hx]
        exact (hu j hj).1
      · rw [List.getElem?_eq_none (by simp; omega)] at hx
        simp at hx) (fun x hx => by
      obtain ⟨i, hi, rfl⟩ := List.mem_map.1 hx
      exact (hu i (List.mem_range.1 hi)).2.1) (by unfold maxLen; omega) (by omega) (Nat.le_refl _)
    rw [Nat.zero_add, List.nil_append] at hown
    have hbel : Below W.heap.size W w' := (Below.refl _ _).grown hgrow (Nat.le_refl _) (fun k hk => by simp [Value.ownBlock] at hk)
    rcases hown.2 with ⟨_, h1⟩ | ⟨g, cap', cur, rfl, hR, hblk, hle, _, hsz, htk⟩
    · omega
    · refine ⟨_, cap', w', hr, fun _ => ⟨g, cur, rfl, hR, hblk, fun i hi => ?_⟩, hbel, hle⟩
      obtain ⟨h1, _, oc, cc, h3, h4, h4a⟩ := hu i hi
      refine ⟨oc, cc, ?_, h4.below hbel, fun hpos b' off' e => ⟨by
        have := h4.blk hpos e
        omega, h4a hpos b' off' e⟩⟩
      have h5 := congrArg (fun l => l[i]?) htk
      simp only [List.getElem?_take, Nat.mul_one, if_pos hi, List.getElem?_map, List.getElem?_range hi, Option.map_some, Array.getElem?_toList] at h5
      rw [h5, h3]
theorem Mx.take {w : World} {o : Option Addr} {K n C : Nat} {r : Nat → Nat} (h : Mx w o K C r) (hn : n ≤ K) : Mx w o n C r := fun h0 => by
  obtain ⟨b, off, e, hb, hc⟩ := h (by omega)
  exact ⟨b, off, e, hb, fun c hck => hc c (by omega)⟩
theorem Mx.congr {w : World} {o : Option Addr} {K C : Nat} {r s : Nat → Nat} (h : Mx w o K C r) (e : ∀ i, i < K → r i = s i) : Mx w o K C s := fun h0 => by
  obtain ⟨b, off, e1, h1, h2⟩ := h h0
  exact ⟨b, off, e1, h1, fun i hi => by
    have h3 := h2 i hi
    simp only [e i hi] at h3
    exact h3⟩
theorem wl_run {ops : Array Oper} {rest : List Oper} {o : Oper} {a : Act} {Q : Exit → Act → World → Prop} (w : World) (hgd : o.guard = none) (s x : Operand) (t : TypeId)
    (ho : o.op = .call { callee := .builtin .append, args := #[s, x], argTypes := #[t, t] }) (v u v' : Value) (w' : World) (hs : a.eval s = v) (hx : a.eval x = u) (hr : (Builtin.append_ #[t, t] o.type #[v, u]).run Tryd.prog w = .ok v' w')
    (h : wpList Tryd.prog ops Q rest (a.put o.dst v') w') : wpList Tryd.prog ops Q (o :: rest) a w := by
  refine wpList_plain hgd fun K hK => ?_
  unfold Oper.wp execOp
  simp only [ho, resolve, invoke, builtin, Sem.run_bind, Sem.run_pure, Result.andThen_ok, List.map_toArray, List.map_cons, List.map_nil, hs, hx, hr]
  exact hK _ _ h
theorem step_run {ops : Array Oper} {o : Oper} {a : Act} {Kx : Act → World → Prop} {Q : Exit → Act → World → Prop} {E : Prop} (w : World) (hgd : o.guard = none) (s x : Operand) (t : TypeId)
    (ho : o.op = .call { callee := .builtin .append, args := #[s, x], argTypes := #[t, t] }) (v u v' : Value) (w' : World) (hs : a.eval s = v) (hx : a.eval x = u) (hr : (Builtin.append_ #[t, t] o.type #[v, u]).run Tryd.prog w = .ok v' w')
    (h : Kx (a.put o.dst v') w') : if Region.wanted o (yielded ops a.tmps) = true then Oper.wp Tryd.prog o a w Kx Q else E := by
  have hw : Region.wanted o (yielded ops a.tmps) = true := by simp [Region.wanted, hgd]
  rw [if_pos hw]
  unfold Oper.wp execOp
  simp only [ho, resolve, invoke, builtin, Sem.run_bind, Sem.run_pure, Result.andThen_ok, List.map_toArray, List.map_cons, List.map_nil, hs, hx, hr]
  exact h
/-- The first row, from n on, that has column c, or none. -/
theorem piv_of (ρ : Nat → Nat) (n c : Nat) : ∀ K, (∀ j, n ≤ j → j < K → (ρ j).testBit c = false) ∨ ∃ k, n ≤ k ∧ k < K ∧ (ρ k).testBit c = true ∧ ∀ i, n ≤ i → i < k → (ρ i).testBit c = false
  | 0 => .inl fun j _ h => absurd h (Nat.not_lt_zero _)
  | K + 1 => by
    rcases piv_of ρ n c K with h | ⟨k, h1, h2, h3, h4⟩
    · by_cases hn : n ≤ K
      · cases hv : (ρ K).testBit c with
        | true => exact .inr ⟨K, hn, by omega, hv, fun i h1 h2 => h i h1 h2⟩
        | false =>
          refine .inl fun j h1 h2 => ?_
          by_cases e : j = K
          · rw [e]; exact hv
          · exact h j h1 (by omega)
      · refine .inl fun j h1 h2 => ?_
        omega
    · exact .inr ⟨k, h1, by omega, h3, h4⟩
/-- Rows ahead of i are done. -/
def clri (σ : Nat → Nat) (n c i : Nat) : Nat → Nat := fun q => if q < i then clr σ n c q else σ q
theorem clri_step_yes {σ : Nat → Nat} {n c i : Nat} (h : i ≠ n ∧ (σ i).testBit c = true) : upd (clri σ n c i) i (σ i ^^^ σ n) = clri σ n c (i + 1) := by
  funext q
  unfold clri
  by_cases e : q = i
  · rw [e, upd_at, if_pos (by omega)]
    unfold clr
    rw [if_pos h]
  · rw [upd_ne e]
    by_cases h1 : q < i
    · rw [if_pos h1, if_pos (by omega)]
    · rw [if_neg h1, if_neg (by omega)]
theorem clri_step_no {σ : Nat → Nat} {n c i : Nat} (h : ¬ (i ≠ n ∧ (σ i).testBit c = true)) : clri σ n c i = clri σ n c (i + 1) := by
  funext q
  unfold clri
  by_cases e : q = i
  · rw [e, if_neg (by omega), if_pos (by omega)]
    unfold clr
    rw [if_neg h]
  · by_cases h1 : q < i
    · rw [if_pos h1, if_pos (by omega)]
    · rw [if_neg h1, if_neg (by omega)]
theorem clri_self {σ : Nat → Nat} {n c i : Nat} : clri σ n c i n = σ n := by
  unfold clri clr
  by_cases h : n < i
  · rw [if_pos h, if_neg (by simp)]
  · rw [if_neg h]
theorem clri_now {σ : Nat → Nat} {n c i : Nat} : clri σ n c i i = σ i := by unfold clri; rw [if_neg (Nat.lt_irrefl _)]
theorem swp_upd (ρ : Nat → Nat) (n k : Nat) : upd (upd ρ n (ρ k)) k (ρ n) = swp ρ n k := by
  funext q
  unfold swp
  by_cases e : q = n
  · rw [if_pos e]
    by_cases e2 : q = k
    · rw [e2, upd_at, ← e2, e]
    · rw [upd_ne e2, e, upd_at]
  · rw [if_neg e]
    by_cases e2 : q = k
    · rw [if_pos e2, e2, upd_at]
    · rw [if_neg e2, upd_ne e2, upd_ne e]
set_option maxRecDepth 100000 in
set_option maxHeartbeats 8000000 in
theorem reduced_ok (C K : Nat) (hC : C ≤ 31) (hK : K ≤ 31) (r : Nat → Nat) (hr : ∀ i, i < K → r i < 2 ^ C) (T : List Nat) (τ : Nat → Nat) (hcan : Can C (rows K r) T τ) (o : Option Addr) (cap : Nat) (w : World) (R0 : Nat) (hR0 : R0 ≤ w.heap.size) (hM : Gs w (fun b => b < R0) o K C r) :
    Calls Tryd.prog 57 #[mv (C : Int) o K cap] w fun e w' => ∃ o' cap', e = .returned (mv (C : Int) o' T.length cap') ∧ Mf R0 w.heap.size w' o' T.length C (fun i => τ (T.getD i 0)) ∧ Below w.heap.size w w' := by
  obtain ⟨f1, f2, f3⟩ := w2_facts w (C : Int) o K cap
  obtain ⟨o1, cap1, W, hrun, hgr, hbW, hcap⟩ := app_rows K C (by omega) r o cap _ _ (hM.below f1)
  have hs : ((w.alloc (.cells #[.int .i64 (C : Int), .slice o K cap] 24)).alloc (.cells #[.int .i64 0, .slice none 0 0] 24)).heap.size = w.heap.size + 1 + 1 := by simp
  rw [hs] at hgr hbW
  have HA := Lib.hid (f2.below hbW (by omega))
  have HC := Lib.hid (f3.below hbW (by omega))
  have HB := Lib.hid (f1.trans (hbW.mono (by omega)))
  obtain ⟨S, hS⟩ : ∃ S, w.heap.size = S := ⟨_, rfl⟩
  rw [hS] at HA HC HB hgr
  have HS := Lib.hid hS
  have hgr := hgr.weak (A' := fun b => b < R0 ∨ S + 1 + 1 ≤ b) (fun b hb => .inl hb)
  have hR0S : R0 ≤ S := by omega
  have HR0 := Lib.hid hR0S
  clear hR0 hR0S
  have HG := Lib.hid hgr
  have HCan := Lib.hid hcan
  have HRr := Lib.hid hr
  have HLt := Lib.hid (show S + 1 + 1 ≤ W.heap.size by have := hbW.size; rw [hs] at this; omega)
  unfold mv
  clear f1 f2 f3 hgr hbW hs hcan hr hM
  go_enter Tryd.func57, Tryd.ntmps57
  go_wp2_with (at_builtin; refine wl_run _ rfl _ _ 22 rfl _ _ _ _ rfl rfl hrun ?_)
  clear hrun
  have h0B : Below (S + 1 + 1) W W := Below.refl _ _
  go_loopw [4, 5] (fun vn vc wr => ∃ (c n : Nat) (ρ : Nat → Nat) (ps : List Nat), c ≤ C ∧ vn = .int .i64 (n : Int) ∧ vc = .int .i64 (c : Int) ∧ GJ K (rows K r) c n ρ ps ∧ Gr wr (S + 1 + 1) (fun b => b < R0 ∨ S + 1 + 1 ≤ b) o1 K C ρ ∧ Below (S + 1 + 1) W wr) (fun _ vc _ => C - (intOf vc).toNat)
  case atStart => exact ⟨0, 0, r, [], by omega, by first | trivial | rfl, by first | trivial | rfl, GJ.start K r, HG.out, Below.refl _ _⟩
  case round =>
    obtain ⟨c, n, ρ, ps, hc, rfl, rfl, hgj, hgr, hbe⟩ := hrel
    have hnK := hgj.nK
    have c0 : wr.cell? ⟨S, 0, none⟩ = some (.int .i64 (C : Int)) := (HA.out.below hbe (by omega)).cell 0
    have HGj := Lib.hid hgj
    have HGr := Lib.hid hgr
    have HBe := Lib.hid hbe
    by_cases hlt : c < C
    · have hc1 : (c : Int) < (C : Int) := by omega
      have hpv := fun res hres => pivot_any C K (by omega) (by omega) ρ n c hlt hnK res hres o1 cap1 wr hgr.mx
      rcases piv_of ρ n c K with hno | ⟨k, hk1, hk2, hk3, hk4⟩
      · have HPv := Lib.hid (hpv (-1) (.inl ⟨rfl, hno⟩))
        have HG2 := Lib.hid (hgj.skip hno)
        clear hgj hgr hbe hpv hno
        go_wp2_with fail
        refine HPv.out.mono ?_
        rintro e w' ⟨rfl, rfl⟩
        go_wp2_with fail
        go_roundw
        case rel => exact ⟨c + 1, n, ρ, ps, by omega, rfl, by go_num, HG2.out, HGr.out, HBe.out⟩
        case measure => simp [intOf]; omega
      · have HPv := Lib.hid (hpv (k : Int) (.inr ⟨k, rfl, hk1, hk2, hk3, hk4⟩))
        have HG2 := Lib.hid (hgj.pivot hk1 hk2 hk3)
        have hn1 : n < K := by omega
        obtain ⟨g, cur, he, hR, _⟩ := hgr (by omega)
        subst he
        obtain ⟨ok, capk, e1, l1, ne1, _, fz1, hgl⟩ := hgr.at_ hk2
        obtain ⟨on, capn, e2, l2, ne2, _, fz2, _⟩ := hgr.at_ hn1
        have hsw : Gr ((wr.setCell ⟨g, n, none⟩ (.slice ok (el C (ρ k)).length capk)).setCell ⟨g, k, none⟩ (.slice on (el C (ρ n)).length capn)) (S + 1 + 1) (fun b => b < R0 ∨ S + 1 + 1 ≤ b) (some ⟨g, 0, none⟩) K C (swp ρ n k) := by
          have h1 := hgr.set (cap := capk) hn1 l1 ne1
          rw [← swp_upd]
          refine h1.set hk2 (fun hpos => ?_) ne2
          obtain ⟨b, off, e3, hb, hcell⟩ := l2 hpos
          refine ⟨b, off, e3, by simpa using hb, fun j hj => ?_⟩
          rw [World.cell?_of_block (w := wr) (a := ⟨b, off + j, none⟩) (Below.heap_setCell wr ⟨g, n, none⟩ _ b (ne2 hpos b off e3).1)]
          exact hcell j hj
        have HSw := Lib.hid hsw
        have h1st := hgr.set (cap := capk) hn1 l1 ne1
        obtain ⟨o3, cap3, e3, _, _, _, fz3, _⟩ := h1st.at_ hk2
        obtain ⟨n3, hn3⟩ : ∃ x, (el C (upd ρ n (ρ k) k)).length = x := ⟨_, rfl⟩
        rw [hn3] at e3
        have HBw := Lib.hid ((hbe.setCell (p := ⟨g, n, none⟩) hR (.slice ok (el C (ρ k)).length capk)).setCell (p := ⟨g, k, none⟩) hR (.slice on (el C (ρ n)).length capn))
        obtain ⟨nk, hnk⟩ : ∃ x, (el C (ρ k)).length = x := ⟨_, rfl⟩
        obtain ⟨nn, hnn⟩ : ∃ x, (el C (ρ n)).length = x := ⟨_, rfl⟩
        rw [hnk] at e1 e3 fz3
        rw [hnn] at e2
        rw [hnk, hnn] at HSw HBw
        have hk5 : (k : Int) < (K : Int) := by omega
        have hn5 : (n : Int) < (K : Int) := by omega
        clear hgj hgr hbe hpv hk3 hk4 hsw l1 l2 ne1 ne2 hnk hnn h1st hn3
        go_wp2_with fail
        refine HPv.out.mono ?_
        rintro e w' ⟨rfl, rfl⟩
        go_wp2_with fail
        go_region
        go_wp2_with fail
        clear e1 e2 e3 fz1 fz2 fz3
        obtain ⟨σ, hσ⟩ : ∃ σ, swp ρ n k = σ := ⟨_, rfl⟩
        rw [hσ] at HSw HG2
        have h0i : clri σ n c 0 = σ := by funext q; unfold clri; rw [if_neg (Nat.not_lt_zero _)]
        have H0i := Lib.hid h0i
        clear h0i hσ
        have HR := Lib.hid hR
        go_loopw [7] (fun j wl => ∃ i : Nat, i ≤ K ∧ j = .int .i64 (i : Int) ∧ Gr wl (S + 1 + 1) (fun b => b < R0 ∨ S + 1 + 1 ≤ b) (some ⟨g, 0, none⟩) K C (clri σ n c i) ∧ Below (S + 1 + 1) W wl) (fun j _ => K - (intOf j).toNat)
        case atStart => exact ⟨0, by omega, by first | trivial | rfl, by rw [H0i.out]; exact HSw.out, below_dn 1 HBw.out⟩
        case round =>
          obtain ⟨i, hi, rfl, hgr, hbe⟩ := hrel
          have HGr := Lib.hid hgr
          have HBe := Lib.hid hbe
          by_cases hli : i < K
          · have hi5 : (i : Int) < (K : Int) := by omega
            by_cases hin : i = n
            · subst hin
              have hst := clri_step_no (σ := σ) (n := i) (c := c) (i := i) (fun h => h.1 rfl)
              have HSt := Lib.hid hst
              clear hgr hbe hst
              go_wp2_with fail
              go_roundw
              case rel => exact ⟨i + 1, by omega, by go_num, by rw [← HSt.out]; exact HGr.out, HBe.out⟩
              case measure => simp [intOf]; omega
            · have hin1 : ((i : Int) != (n : Int)) = true := by rw [bne_iff_ne]; omega
              obtain ⟨oi, ci, e1, l1, ne1, hRg, fz1, hgl1⟩ := hgr.at_ hli
              obtain ⟨on2, cn2, e2, l2, ne2, _, fz2, _⟩ := hgr.at_ hn1
              rw [clri_now] at e1 l1 ne1
              rw [clri_self] at e2 l2 ne2
              have hha := has_mem (el C (σ i)) (by have := el_len C (σ i); omega) c oi ci _ l1
              have hdec : decide (c ∈ el C (σ i)) = (σ i).testBit c := by
                rw [Bool.eq_iff_iff, decide_eq_true_iff, el_mem]
                exact ⟨fun h => h.2, fun h => ⟨hlt, h⟩⟩
              rw [hdec] at hha
              have hpl : ∀ V, Below wr.heap.size wr V → Calls Tryd.prog 38 #[.slice oi (el C (σ i)).length ci, .slice on2 (el C (σ n)).length cn2] V fun e y => ∃ o1 c1, e = .returned (.slice o1 (el C (σ i ^^^ σ n)).length c1) ∧ Lz y o1 (el C (σ i ^^^ σ n)).length (lz (el C (σ i ^^^ σ n))) ∧ (0 < (el C (σ i ^^^ σ n)).length → ∀ b off, o1 = some ⟨b, off, none⟩ → b ≠ g ∧ (b < R0 ∨ S + 1 + 1 ≤ b)) ∧ Below wr.heap.size wr y := fun V hV => by
                refine (plus_ok (el C (σ i)) (el C (σ n)) (by have := el_len C (σ i); have := el_len C (σ n); omega) oi on2 ci cn2 V (l1.below hV) (l2.below hV)).mono ?_
                rintro e y ⟨u, rfl, hr, hb⟩
                rw [plus_el] at hr
                obtain ⟨o1, c1, rfl, hz⟩ := hr.lz
                refine ⟨o1, c1, rfl, hz, fun hpos b off he => ?_, hV.trans (hb.mono hV.size)⟩
                rcases hr.cases with ⟨_, h0⟩ | ⟨g', cap', h1, h2, _⟩
                · have := congrArg List.length h0
                  rw [ints_len] at this
                  have h3 : (el C (σ i ^^^ σ n)).length = 0 := this
                  omega
                · have h4 := (Value.slice.inj h1).1
                  rw [he] at h4
                  have h5 : b = g' := by have := Option.some.inj h4; injection this
                  have := hV.size
                  have := hbe.size
                  have := HLt.out
                  omega
              have hst : (σ i).testBit c = true → upd (clri σ n c i) i (σ i ^^^ σ n) = clri σ n c (i + 1) := fun h => clri_step_yes ⟨hin, h⟩
              have hst2 : (σ i).testBit c = false → clri σ n c i = clri σ n c (i + 1) := fun h => clri_step_no (fun g => by rw [h] at g; cases g.2)
              have HGq := Lib.hid (fun V (hV : Below wr.heap.size wr V) o1 c1 hz hne => (hgr.below hV).set (i := i) (y := σ i ^^^ σ n) (cap := c1) (oc := o1) hli hz hne)
              have HCl := Lib.hid (fun V (hV : Below wr.heap.size wr V) => (⟨(hV.cell (p := ⟨g, i, none⟩) hgl1).trans e1, (World.frozen?_of_block (hV.block g hgl1)).trans fz1, (hV.cell (p := ⟨g, n, none⟩) hgl1).trans e2⟩ : V.cell? ⟨g, i, none⟩ = _ ∧ V.frozen? ⟨g, i, none⟩ = _ ∧ V.cell? ⟨g, n, none⟩ = _))
              obtain ⟨q, hq⟩ : ∃ q, (σ i).testBit c = q := ⟨_, rfl⟩
              rw [hq] at hha hst hst2
              obtain ⟨ni, hni⟩ : ∃ x, (el C (σ i)).length = x := ⟨_, rfl⟩
              obtain ⟨nn2, hnn2⟩ : ∃ x, (el C (σ n)).length = x := ⟨_, rfl⟩
              rw [hni] at e1 hha hpl HCl
              rw [hnn2] at e2 hpl HCl
              have HHa := Lib.hid hha
              have HPl := Lib.hid hpl
              have HSt := Lib.hid hst
              have HSt2 := Lib.hid hst2
              have HGl1 := Lib.hid hgl1
              clear hgr hbe l1 l2 ne1 ne2 hha hdec hpl hst hst2 hq hni hnn2 fz2
              cases q with
              | true =>
                go_wp2_with fail
                refine HHa.out.mono ?_
                rintro e w' ⟨rfl, rfl⟩
                go_wp2_with fail
                go_region_law (first | (go_simp; go_at_call 38; refine (HPl.out _ (by first | exact Below.refl _ _ | exact below_dn 1 (Below.refl _ _) | assumption)).mono ?_; rintro e y ⟨o1, c1, rfl, hz, hne, hby⟩; obtain ⟨k1, k2, k3⟩ := HCl.out y hby; have HZ := Lib.hid hz; have HNe := Lib.hid hne; have HBy := Lib.hid hby; clear hz hne; dsimp only))
                all_goals
                  have HGn := Lib.hid (HGq.out _ HBy.out o1 c1 HZ.out HNe.out)
                  have HBn := Lib.hid ((HBe.out.trans (HBy.out.mono (by have := HBe.out.size; have := HLt.out; omega))).setCell (p := ⟨g, i, none⟩) HR.out (.slice o1 (el C (σ i ^^^ σ n)).length c1))
                  go_wp2_with fail
                  go_roundw
                  case rel => exact ⟨i + 1, by omega, by go_num, by rw [← HSt.out (by first | trivial | rfl)]; exact HGn.out, HBn.out⟩
                  case measure => simp [intOf]; omega
              | false =>
                go_wp2_with fail
                refine HHa.out.mono ?_
                rintro e w' ⟨rfl, rfl⟩
                go_wp2_with fail
                go_roundw
                case rel => exact ⟨i + 1, by omega, by go_num, by rw [← HSt2.out (by first | trivial | rfl)]; exact HGr.out, HBe.out⟩
                case measure => simp [intOf]; omega
          · have e : K = i := by omega
            subst e
            have HGf := Lib.hid (hgr.congr (s := clr σ n c) (fun j hj => by unfold clri; rw [if_pos hj]))
            clear hgr hbe hli
            go_wp2_with fail
            go_roundw
            case rel => exact ⟨c + 1, n + 1, _, _, by omega, by go_num, by go_num, HG2.out, HGf.out, HBe.out⟩
            case measure => simp [intOf]; omega
    · have e : C = c := by omega
      subst e
      obtain ⟨σ, hs1, hs2, hs3⟩ := gj_can HRr.out hgj
      obtain ⟨rfl, rfl⟩ := HCan.out.uniq hs1
      have hN := hs2
      have hap := fun V (hV : Below wr.heap.size wr V) => app_rows n C (by omega) ρ o1 cap1 V _ (hgr.gs hnK hV)
      obtain ⟨X, hX⟩ : ∃ x, wr.heap.size = x := ⟨_, rfl⟩
      rw [hX] at hap
      have HAp := Lib.hid hap
      have HE := Lib.hid hs3
      have hXS : S + 1 + 1 ≤ X := by have := hbe.size; have := HLt.out; omega
      have HXS := Lib.hid hXS
      have hbx := Box.new wr #[.int .i64 (C : Int), .slice none 0 0] 24
      have hbn : Below wr.heap.size wr (wr.alloc (.cells #[.int .i64 (C : Int), .slice none 0 0] 24)) := (Below.refl _ _).alloc (Nat.le_refl _) _
      have hc3 := (HC.out.below hbe (by omega)).alloc (.cells #[.int .i64 (C : Int), .slice none 0 0] 24)
      have hbw2 := hbe.alloc (by have := hbe.size; have := HLt.out; omega) (.cells #[.int .i64 (C : Int), .slice none 0 0] 24)
      have hn5 : (n : Int) ≤ (K : Int) := by omega
      have hncap : n ≤ cap1 := by omega
      have hn6 : (n : Int) ≤ (cap1 : Int) := by omega
      rw [hX] at hbx hbn
      clear hgj hgr hbe hs1 hs2 hs3 hap hlt
      go_wp2_with fail
      obtain ⟨V, hV⟩ : ∃ V, wr.alloc (.cells #[.int .i64 (C : Int), .slice none 0 0] 24) = V := ⟨_, rfl⟩
      rw [hV] at hbx hbn hc3 hbw2 ⊢
      have HBx := Lib.hid hbx
      have HBn := Lib.hid hbn
      have HC3 := Lib.hid hc3
      have HBw := Lib.hid hbw2
      have q0 := hbx.cell 1
      have hXV := hbx.lt
      have hSV := hbw2.size
      have HXV := Lib.hid hXV
      clear hV hX hbx hbn hc3 hbw2 hXV hSV hXS
      go_region_law (first
        | (obtain ⟨o2, cap2, w2, hr2, hg2, hb2, _⟩ := HAp.out V HBn.out; refine step_run V rfl _ _ 22 rfl _ _ _ _ rfl rfl hr2 ?_; have HG2 := Lib.hid (hg2.le (Nat.succ_le_of_lt HXV.out)); have hbx2 := HBx.out.below hb2 HXV.out; have hc4 := HC3.out.below hb2 (by have := HXV.out; have := HXS.out; omega); have k0 := hbx2.cell 1; have kf := hbx2.open_ 1; have HBx2 := Lib.hid hbx2; have HC4 := Lib.hid hc4; have HB2 := Lib.hid (HBw.out.trans (hb2.mono (by have := HXV.out; have := HXS.out; omega))); clear hr2 hg2 hb2 hbx2 hc4)
        | (obtain ⟨o2, cap2, w2, hr2, hg2, hb2, _⟩ := HAp.out V.drew (below_dn 1 HBn.out); refine step_run V.drew rfl _ _ 22 rfl _ _ _ _ rfl rfl hr2 ?_; have HG2 := Lib.hid ((show Gr w2 V.heap.size _ _ _ _ _ from hg2).le (Nat.succ_le_of_lt HXV.out)); have hb3 := (below_dn 1 (Below.refl V.heap.size V)).trans (show Below V.heap.size V.drew w2 from hb2); have hbx2 := HBx.out.below hb3 HXV.out; have hc4 := HC3.out.below hb3 (by have := HXV.out; have := HXS.out; omega); have k0 := hbx2.cell 1; have kf := hbx2.open_ 1; have HBx2 := Lib.hid hbx2; have HC4 := Lib.hid hc4; have HB2 := Lib.hid (HBw.out.trans (hb3.mono (by have := HXV.out; have := HXS.out; omega))); clear hr2 hg2 hb2 hb3 hbx2 hc4))
      all_goals
        have hbY := HBx2.out.set 1 (.slice o2 n cap2)
        have hcY := HC4.out.setOther (d := X) (i := 1) (by have := HXS.out; omega) (.slice o2 n cap2)
        have hgY := HG2.out.other (Z := X) (i := 1) (Nat.lt_succ_self X) (fun b hb => by omega) (.slice o2 n cap2)
        have hwY := HB2.out.setCell (p := ⟨X, 1, none⟩) HXS.out (.slice o2 n cap2)
        obtain ⟨Y, hY⟩ : ∃ Y, w2.setCell ⟨X, 1, none⟩ (.slice o2 n cap2) = Y := ⟨_, rfl⟩
        rw [hY] at hbY hcY hgY hwY ⊢
        have d0 := hcY.cell 0
        have d1 := hcY.cell 1
        have g0 := hcY.open_ 0
        have g2 := hcY.open_ 1
        have c3 := hbY.cell 1
        have c4 := hbY.cell 0
        have hfb := (hcY.set 0 (.int .i64 (C : Int))).set 1 (.slice o2 n cap2)
        have hfg := ((hgY.other (Z := S + 1) (i := 0) (by have := HXS.out; omega) (fun b hb => by have := HR0.out; omega) (.int .i64 (C : Int))).other (Z := S + 1) (i := 1) (by have := HXS.out; omega) (fun b hb => by have := HR0.out; omega) (.slice o2 n cap2)).mf (R' := S) (R0 := R0) (by have := HXS.out; omega) (fun b hb => by omega)
        have hfw := ((HB.out.trans (hwY.mono (by omega))).setCell (p := ⟨S + 1, 0, none⟩) (by show S ≤ S + 1; omega) (.int .i64 (C : Int))).setCell (p := ⟨S + 1, 1, none⟩) (by show S ≤ S + 1; omega) (.slice o2 n cap2)
        have HFB := Lib.hid hfb
        have HFG := Lib.hid hfg
        have HFW := Lib.hid hfw
        clear hY hbY hcY hgY hwY hfb hfg hfw k0 kf
        have HN := Lib.hid hN
        clear hN
        go_wp2_with fail
        have z0 := HFB.out.cell 0
        have z1 := HFB.out.cell 1
        simp at z0 z1
        refine bodyPost_ret (v := .agg #[.int .i64 (C : Int), .slice o2 n cap2]) (by simp [results, Tryd.results57, go_sem, z0, z1]) rfl ⟨o2, cap2, by rw [HN.out], ?_, by rw [HS.out]; exact HFW.out⟩
        rw [HN.out, HS.out]
        exact Mf.congr HFG.out fun i hi => (HE.out i hi).symm

end Go.Proofs.YtbefkngeffpokaaDoor
