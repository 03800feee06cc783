/- The specification's Reduced. -/
import Derived.Test.YtdobhdhgmbmhfaaDoorMxJ
import Derived.Test.YtdobhdhgmbmhfaaDoorMxQ
import Derived.WalkKit
import Derived.WalkSpells
import Derived.WalkLawsBesides
import Derived.Handy
import Derived.Deep.QuietTactic
import Derived.BigQuiet
import Derived.Outline
import Derived.Laws.BitsAllLaws
import Derived.IntWalk
import Derived.Lib.SmallJoins
import Derived.Lib.Hide
import Derived.Deep.DeepCutAuto
import Derived.LoopTactic
import Derived.Deep.RegionWith
import Derived.Laws.CopyOwn
import Derived.Maps.OwnOps
import Derived.Maps.OwnSet
import Derived.Laws.OwnMore
import Derived.Maps.AppendAt
import Derived.RangeFuncNested
import Derived.RangeFuncBound
import Derived.RangeFuncCalls
import Derived.RangeFuncLeaves
import Derived.RangeFuncBox
import Derived.RangeFuncFrom
import Derived.Shelf.Abstract
import Derived.Shelf.RegionOpen
import Derived.OwnWalkIn
import Derived.TacticsInMore
import Derived.LoopNIn
import Derived.LoopIn
import Derived.Deep.RegionHeld3
import Derived.RegionTactic
import Derived.ChangeAlike
namespace Go.Proofs.YtdobhdhgmbmhfaaDoor
set_option linter.unusedVariables false
set_option linter.unusedSimpArgs false
open Go.RowKit


/-- A row of rows of the call's own, from R on: row i is r i, and none lies in the row itself. -/
def Gr (w : World) (R : Nat) (A : Nat → Prop) (o : Option Addr) (K C : Nat) (r : Nat → Nat) : Prop := 0 < K → ∃ g cur, o = some ⟨g, 0, none⟩ ∧ R ≤ g ∧ Box w g cur 25 ∧ ∀ i, i < K → ∃ oc cap, cur[i]? = some (.slice oc (el C (r i)).length cap) ∧ Lz w oc (el C (r i)).length (lz (el C (r i))) ∧ (0 < (el C (r i)).length → ∀ b off, oc = some ⟨b, off, none⟩ → b ≠ g ∧ A b)
theorem Gr.mx {w : World} {R K C : Nat} {A : Nat → Prop} {o : Option Addr} {r : Nat → Nat} (h : Gr w R A o K C r) : Mx w o K C r := fun hK => by
  obtain ⟨g, cur, e, _, hb, hc⟩ := h hK
  refine ⟨g, 0, e, hb.lt, fun i hi => ?_⟩
  obtain ⟨oc, cap, h1, h2, _⟩ := hc i hi
  refine ⟨oc, cap, ?_, ?_⟩
  · rw [ints_len, hb.cell, Nat.zero_add]; exact h1
  · rw [ints_len]; exact h2.congr fun j _ => (ints_at _ j).symm
theorem Gr.below {w W : World} {R K C : Nat} {A : Nat → Prop} {o : Option Addr} {r : Nat → Nat} (h : Gr w R A o K C r) (hb : Below w.heap.size w W) : Gr W R A o K C r := fun hK => by
  obtain ⟨g, cur, e, hR, hbx, hc⟩ := h hK
  refine ⟨g, cur, e, hR, hbx.below hb hbx.lt, fun i hi => ?_⟩
  obtain ⟨oc, cap, h1, h2, h3⟩ := hc i hi
  exact ⟨oc, cap, h1, h2.below hb, h3⟩
theorem Gr.congr {w : World} {R K C : Nat} {A : Nat → Prop} {o : Option Addr} {r s : Nat → Nat} (h : Gr w R A o K C r) (e : ∀ i, i < K → r i = s i) : Gr w R A o K C s := fun hK => by
  obtain ⟨g, cur, e1, hR, hbx, hc⟩ := h hK
  refine ⟨g, cur, e1, hR, hbx, fun i hi => ?_⟩
  rw [← e i hi]
  exact hc i hi
/-- A row is written anew. -/
theorem Gr.set {w : World} {R K C g i y cap : Nat} {A : Nat → Prop} {oc : Option Addr} {r : Nat → Nat} (h : Gr w R A (some ⟨g, 0, none⟩) K C r) (hi : i < K) (hl : Lz w oc (el C y).length (lz (el C y))) (hne : 0 < (el C y).length → ∀ b off, oc = some ⟨b, off, none⟩ → b ≠ g ∧ A b) : Gr (w.setCell ⟨g, i, none⟩ (.slice oc (el C y).length cap)) R A (some ⟨g, 0, none⟩) K C (upd r i y) := fun hK => by
  obtain ⟨g', cur, e1, hR, hbx, hc⟩ := h hK
  cases e1
  have hkeep : ∀ {n : Nat} {f : Nat → Int} {o : Option Addr}, Lz w o n f → (0 < n → ∀ b off, o = some ⟨b, off, none⟩ → b ≠ g) → Lz (w.setCell ⟨g, i, none⟩ (.slice oc (el C y).length cap)) o n f := fun {n f o} hz hn hpos => by
    obtain ⟨b, off, e2, hb, hcell⟩ := hz hpos
    refine ⟨b, off, e2, by simpa using hb, fun j hj => ?_⟩
    rw [World.cell?_of_block (w := w) (a := ⟨b, off + j, none⟩) (Below.heap_setCell w ⟨g, i, none⟩ _ b (hn hpos b off e2))]
    exact hcell j hj
  refine ⟨g, cur.setIfInBounds i (.slice oc (el C y).length cap), rfl, hR, hbx.set i _, fun j hj => ?_⟩
  rw [Array.getElem?_setIfInBounds]
  by_cases e : i = j
  · subst e
    have hsz : i < cur.size := by
      obtain ⟨oc', cap', h1, _⟩ := hc i hi
      exact (Array.getElem?_eq_some_iff.1 h1).1
    rw [if_pos rfl, if_pos hsz, upd_at]
    exact ⟨oc, cap, rfl, hkeep hl (fun hp b off e => (hne hp b off e).1), hne⟩
  · rw [if_neg e, upd_ne (fun g => e g.symm)]
    obtain ⟨oc', cap', h1, h2, h3⟩ := hc j hj
    exact ⟨oc', cap', h1, hkeep h2 (fun hp b off e => (h3 hp b off e).1), h3⟩
theorem Gr.weak {w : World} {R K C : Nat} {A A' : Nat → Prop} {o : Option Addr} {r : Nat → Nat} (h : Gr w R A o K C r) (hA : ∀ b, A b → A' b) : Gr w R A' o K C r := fun hK => by
  obtain ⟨g, cur, e1, hR, hbx, hc⟩ := h hK
  refine ⟨g, cur, e1, hR, hbx, fun i hi => ?_⟩
  obtain ⟨oc, cap, h1, h2, h3⟩ := hc i hi
  exact ⟨oc, cap, h1, h2, fun hp b off e => ⟨(h3 hp b off e).1, hA b (h3 hp b off e).2⟩⟩
theorem Gr.le {w : World} {R R' K C : Nat} {A : Nat → Prop} {o : Option Addr} {r : Nat → Nat} (h : Gr w R A o K C r) (hR : R' ≤ R) : Gr w R' A o K C r := fun hK => by
  obtain ⟨g, cur, e1, h0, hbx, hc⟩ := h hK
  exact ⟨g, cur, e1, by omega, hbx, hc⟩
/-- Another block is written. -/
theorem Gr.other {w : World} {R K C Z i : Nat} {A : Nat → Prop} {o : Option Addr} {r : Nat → Nat} (h : Gr w R A o K C r) (hZ : Z < R) (hA : ∀ b, A b → b ≠ Z) (v : Value) : Gr (w.setCell ⟨Z, i, none⟩ v) R A o K C r := fun hK => by
  obtain ⟨g, cur, e1, hR, hbx, hc⟩ := h hK
  refine ⟨g, cur, e1, hR, hbx.setOther (by omega) v, fun j hj => ?_⟩
  obtain ⟨oc, cap, h1, h2, h3⟩ := hc j hj
  refine ⟨oc, cap, h1, fun hpos => ?_, h3⟩
  obtain ⟨b, off, e2, hb, hcell⟩ := h2 hpos
  refine ⟨b, off, e2, by simpa using hb, fun k hk => ?_⟩
  rw [World.cell?_of_block (w := w) (a := ⟨b, off + k, none⟩) (Below.heap_setCell w ⟨Z, i, none⟩ _ b (hA b (h3 hpos b off e2).2))]
  exact hcell k hk
/-- Rows that lie somewhere. -/
def Gs (w : World) (A : Nat → Prop) (o : Option Addr) (n C : Nat) (r : Nat → Nat) : Prop := 0 < n → ∃ b off, o = some ⟨b, off, none⟩ ∧ b < w.heap.size ∧ ∀ i, i < n → ∃ oc cap, w.cell? ⟨b, off + i, none⟩ = some (.slice oc (el C (r i)).length cap) ∧ Lz w oc (el C (r i)).length (lz (el C (r i))) ∧ (0 < (el C (r i)).length → ∀ b' off', oc = some ⟨b', off', none⟩ → A b')
theorem Mx.gs {w W : World} {o : Option Addr} {n C : Nat} {r : Nat → Nat} (h : Mx w o n C r) (hb : Below w.heap.size w W) : Gs W (fun b => b < w.heap.size) o n C r := fun h0 => by
  obtain ⟨b, off, e, hlt, hc⟩ := h h0
  refine ⟨b, off, e, by have := hb.size; omega, fun i hi => ?_⟩
  obtain ⟨oc, cap, h1, h2⟩ := hc i hi
  rw [ints_len] at h1 h2
  have h3 : Lz w oc (el C (r i)).length (lz (el C (r i))) := h2.congr fun j _ => ints_at _ j
  exact ⟨oc, cap, (hb.cell (p := ⟨b, off + i, none⟩) hlt).trans h1, h3.below hb, fun hpos b' off' e' => h3.blk hpos e'⟩
theorem Gr.gs {w W : World} {R K n C : Nat} {A : Nat → Prop} {o : Option Addr} {r : Nat → Nat} (h : Gr w R A o K C r) (hn : n ≤ K) (hb : Below w.heap.size w W) : Gs W (fun b => b < w.heap.size ∧ A b) o n C r := fun h0 => by
  obtain ⟨g, cur, e1, hR, hbx, hc⟩ := h (by omega)
  refine ⟨g, 0, e1, by have := hb.size; have := hbx.lt; omega, fun i hi => ?_⟩
  obtain ⟨oc, cap, h1, h2, h3⟩ := hc i (by omega)
  exact ⟨oc, cap, by rw [Nat.zero_add]; exact (hb.cell (p := ⟨g, i, none⟩) hbx.lt).trans ((hbx.cell i).trans h1), h2.below hb, fun hpos b' off' e' => ⟨h2.blk hpos e', (h3 hpos b' off' e').2⟩⟩
theorem Gs.below {w W : World} {A : Nat → Prop} {o : Option Addr} {n C : Nat} {r : Nat → Nat} (h : Gs w A o n C r) (hb : Below w.heap.size w W) : Gs W A o n C r := fun h0 => by
  obtain ⟨b, off, e, hlt, hc⟩ := h h0
  refine ⟨b, off, e, by have := hb.size; omega, fun i hi => ?_⟩
  obtain ⟨oc, cap, h1, h2, h3⟩ := hc i hi
  exact ⟨oc, cap, (hb.cell (p := ⟨b, off + i, none⟩) hlt).trans h1, h2.below hb, h3⟩
/-- A row of rows from R on, whose rows lie ahead of R0 or from R on. -/
def Mf (R0 R : Nat) (w : World) (o : Option Addr) (n C : Nat) (r : Nat → Nat) : Prop := 0 < n → ∃ b off, o = some ⟨b, off, none⟩ ∧ R ≤ b ∧ b < w.heap.size ∧ ∀ i, i < n → ∃ oc cap, w.cell? ⟨b, off + i, none⟩ = some (.slice oc (el C (r i)).length cap) ∧ Lz w oc (el C (r i)).length (lz (el C (r i))) ∧ (0 < (el C (r i)).length → ∀ b' off', oc = some ⟨b', off', none⟩ → b' < R0 ∨ R ≤ b')
theorem Mf.mx {R0 R : Nat} {w : World} {o : Option Addr} {n C : Nat} {r : Nat → Nat} (h : Mf R0 R w o n C r) : Mx w o n C r := fun h0 => by
  obtain ⟨b, off, e, _, hlt, hc⟩ := h h0
  refine ⟨b, off, e, hlt, fun i hi => ?_⟩
  obtain ⟨oc, cap, h1, h2, _⟩ := hc i hi
  exact ⟨oc, cap, by rw [ints_len]; exact h1, by rw [ints_len]; exact h2.congr fun j _ => (ints_at _ j).symm⟩
theorem Mf.other {R0 R Z i : Nat} {w : World} {o : Option Addr} {n C : Nat} {r : Nat → Nat} (h : Mf R0 R w o n C r) (h1 : R0 ≤ Z) (h2 : Z < R) (v : Value) : Mf R0 R (w.setCell ⟨Z, i, none⟩ v) o n C r := fun h0 => by
  obtain ⟨b, off, e, hR, hlt, hc⟩ := h h0
  refine ⟨b, off, e, hR, by simpa using hlt, fun j hj => ?_⟩
  obtain ⟨oc, cap, h3, h4, h5⟩ := hc j hj
  refine ⟨oc, cap, ?_, fun hpos => ?_, h5⟩
  · rw [World.cell?_of_block (w := w) (a := ⟨b, off + j, none⟩) (Below.heap_setCell w ⟨Z, i, none⟩ _ b (by show b ≠ Z; omega))]
    exact h3
  · obtain ⟨b', off', e2, hb, hcell⟩ := h4 hpos
    refine ⟨b', off', e2, by simpa using hb, fun k hk => ?_⟩
    rw [World.cell?_of_block (w := w) (a := ⟨b', off' + k, none⟩) (Below.heap_setCell w ⟨Z, i, none⟩ _ b' (by have := h5 hpos b' off' e2; show b' ≠ Z; omega))]
    exact hcell k hk
theorem Mf.congr {R0 R : Nat} {w : World} {o : Option Addr} {n C : Nat} {r s : Nat → Nat} (h : Mf R0 R w o n C r) (e : ∀ i, i < n → r i = s i) : Mf R0 R w o n C s := fun h0 => by
  obtain ⟨b, off, e1, hR, hlt, hc⟩ := h h0
  exact ⟨b, off, e1, hR, hlt, fun i hi => by rw [← e i hi]; exact hc i hi⟩
theorem Mf.le {R0 R R' : Nat} {w : World} {o : Option Addr} {n C : Nat} {r : Nat → Nat} (h : Mf R0 R w o n C r) (hR : R' ≤ R) : Mf R0 R' w o n C r := fun h0 => by
  obtain ⟨b, off, e1, hR2, hlt, hc⟩ := h h0
  refine ⟨b, off, e1, by omega, hlt, fun i hi => ?_⟩
  obtain ⟨oc, cap, h3, h4, h5⟩ := hc i hi
  exact ⟨oc, cap, h3, h4, fun hp b' off' e => by have := h5 hp b' off' e; omega⟩
theorem Gr.mf {w : World} {R R' R0 K C : Nat} {A : Nat → Prop} {o : Option Addr} {r : Nat → Nat} (h : Gr w R A o K C r) (hR : R' ≤ R) (hA : ∀ b, A b → b < R0 ∨ R' ≤ b) : Mf R0 R' w o K C r := fun h0 => by
  obtain ⟨g, cur, e1, h1, hbx, hc⟩ := h h0
  refine ⟨g, 0, e1, by omega, hbx.lt, fun i hi => ?_⟩
  obtain ⟨oc, cap, h2, h3, h4⟩ := hc i hi
  exact ⟨oc, cap, by rw [Nat.zero_add, hbx.cell]; exact h2, h3, fun hp b off e => hA b (h4 hp b off e).2⟩
/-- A row as it lies there. -/
theorem Gr.at_ {w : World} {R K C g i : Nat} {A : Nat → Prop} {r : Nat → Nat} (h : Gr w R A (some ⟨g, 0, none⟩) K C r) (hi : i < K) : ∃ oc cap, w.cell? ⟨g, i, none⟩ = some (.slice oc (el C (r i)).length cap) ∧ Lz w oc (el C (r i)).length (lz (el C (r i))) ∧ (0 < (el C (r i)).length → ∀ b off, oc = some ⟨b, off, none⟩ → b ≠ g ∧ A b) ∧ R ≤ g ∧ w.frozen? ⟨g, i, none⟩ = false ∧ g < w.heap.size := by
  obtain ⟨g', cur, e1, hR, hbx, hc⟩ := h (by omega)
  cases e1
  obtain ⟨oc, cap, h1, h2, h3⟩ := hc i hi
  exact ⟨oc, cap, by rw [hbx.cell]; exact h1, h2, h3, hR, hbx.open_ i, hbx.lt⟩
theorem addr_add (b o k : Nat) : (⟨b, o, none⟩ : Addr).add k = ⟨b, o + k, none⟩ := by
  by_cases h : k = 0
  · subst h; simp [Addr.add]
  · simp [Addr.add, h]
/-- Rows are appended to nothing: a row of rows of the call's own. -/
theorem app_rows (n C : Nat) (hn : n ≤ 1000) (r : Nat → Nat) (o : Option Addr) (cap : Nat) (W : World) (A : Nat → Prop) (hM : Gs W A o n C r) : ∃ o' cap' w1, (Builtin.append_ #[22, 22] 22 #[.slice none 0 0, .slice o n cap]).run Tryd.prog W = .ok (.slice o' n cap') w1 ∧ Gr w1 W.heap.size A o' n C r ∧ Below W.heap.size W w1 ∧ n ≤ cap' := by
  obtain ⟨i0, hi, hz0, hz1, hz2⟩ := info_parts infoL
  by_cases h0 : n = 0
  · subst h0
    refine ⟨none, 0, W, ?_, fun h => absurd h (Nat.lt_irrefl _), Below.refl _ _, Nat.le_refl _⟩
    cases o <;> simp [Builtin.append_, run_underlying Tryd.underlying22, sizeOf, typeInfo, hi, storeCells, Builtin.lenOf, Builtin.firstCells, loadCells, loadCellsFrom]
  · obtain ⟨b, off, rfl, hb, hc⟩ := hM (by omega)
    have hv : ∃ u : Nat → Value, ∀ i, i < n → W.cell? ⟨b, off + i, none⟩ = some (u i) ∧ (u i).oneCell' = true ∧ ∃ oc cap, u i = .slice oc (el C (r i)).length cap ∧ Lz W oc (el C (r i)).length (lz (el C (r i))) ∧ (0 < (el C (r i)).length → ∀ b' off', oc = some ⟨b', off', none⟩ → A b') := by
      have h1 : ∀ i, ∃ v : Value, i < n → W.cell? ⟨b, off + i, none⟩ = some v ∧ v.oneCell' = true ∧ ∃ oc cap, v = .slice oc (el C (r i)).length cap ∧ Lz W oc (el C (r i)).length (lz (el C (r i))) ∧ (0 < (el C (r i)).length → ∀ b' off', oc = some ⟨b', off', none⟩ → A b') := fun i => by
        by_cases hi : i < n
        · obtain ⟨oc, cc, h2, h3, h4⟩ := hc i hi
          exact ⟨_, fun _ => ⟨h2, by simp [Value.oneCell'], oc, cc, rfl, h3, h4⟩⟩
        · exact ⟨.bool false, fun h => absurd h hi⟩
      obtain ⟨u, hu⟩ := Classical.axiomOfChoice h1
      exact ⟨u, hu⟩
    obtain ⟨u, hu⟩ := hv
    have hl : ((List.range n).map u).length = n * 1 := by simp
    obtain ⟨v', w', hr, hown, hgrow, _, hat⟩ := run_append_own_at (P := Tryd.prog) W W.heap.size 22 22 25 i0 (.slice none 0 0) 1 24 Tryd.underlying22 hi hz0 hz1 hz2 rfl (by decide) (.slice none 0 0) 0 [] (World.ownsRow_nil _ _ _ _) ⟨b, off, none⟩ n cap ((List.range n).map u) hl (fun j x hx => by
      rw [List.getElem?_map] at hx
      by_cases hj : j < n
      · rw [List.getElem?_range hj] at hx
        simp at hx
        rw [addr_add, ← hx]
        exact (hu j hj).1
      · rw [List.getElem?_eq_none (by simp; omega)] at hx
        simp at hx) (fun x hx => by
      obtain ⟨i, hi, rfl⟩ := List.mem_map.1 hx
      exact (hu i (List.mem_range.1 hi)).2.1) (by unfold maxLen; omega) (by omega) (Nat.le_refl _)
    rw [Nat.zero_add, List.nil_append] at hown
    have hbel : Below W.heap.size W w' := (Below.refl _ _).grown hgrow (Nat.le_refl _) (fun k hk => by simp [Value.ownBlock] at hk)
    rcases hown.2 with ⟨_, h1⟩ | ⟨g, cap', cur, rfl, hR, hblk, hle, _, hsz, htk⟩
    · omega
    · refine ⟨_, cap', w', hr, fun _ => ⟨g, cur, rfl, hR, hblk, fun i hi => ?_⟩, hbel, hle⟩
      obtain ⟨h1, _, oc, cc, h3, h4, h4a⟩ := hu i hi
      refine ⟨oc, cc, ?_, h4.below hbel, fun hpos b' off' e => ⟨by
        have := h4.blk hpos e
        omega, h4a hpos b' off' e⟩⟩
      have h5 := congrArg (fun l => l[i]?) htk
      simp only [List.getElem?_take, Nat.mul_one, if_pos hi, List.getElem?_map, List.getElem?_range hi, Option.map_some, Array.getElem?_toList] at h5
      rw [h5, h3]
theorem Mx.take {w : World} {o : Option Addr} {K n C : Nat} {r : Nat → Nat} (h : Mx w o K C r) (hn : n ≤ K) : Mx w o n C r := fun h0 => by
  obtain ⟨b, off, e, hb, hc⟩ := h (by omega)
  exact ⟨b, off, e, hb, fun c hck => hc c (by omega)⟩
theorem Mx.congr {w : World} {o : Option Addr} {K C : Nat} {r s : Nat → Nat} (h : Mx w o K C r) (e : ∀ i, i < K → r i = s i) : Mx w o K C s := fun h0 => by
  obtain ⟨b, off, e1, h1, h2⟩ := h h0
  exact ⟨b, off, e1, h1, fun i hi => by
    have h3 := h2 i hi
    simp only [e i hi] at h3
    exact h3⟩
theorem wl_run {ops : Array Oper} {rest : List Oper} {o : Oper} {a : Act} {Q : Exit → Act → World → Prop} (w : World) (hgd : o.guard = none) (s x : Operand) (t : TypeId)
    (ho : o.op = .call { callee := .builtin .append, args := #[s, x], argTypes := #[t, t] }) (v u v' : Value) (w' : World) (hs : a.eval s = v) (hx : a.eval x = u) (hr : (Builtin.append_ #[t, t] o.type #[v, u]).run Tryd.prog w = .ok v' w')
    (h : wpList Tryd.prog ops Q rest (a.put o.dst v') w') : wpList Tryd.prog ops Q (o :: rest) a w := by
  refine wpList_plain hgd fun K hK => ?_
  unfold Oper.wp execOp
  simp only [ho, resolve, invoke, builtin, Sem.run_bind, Sem.run_pure, Result.andThen_ok, List.map_toArray, List.map_cons, List.map_nil, hs, hx, hr]
  exact hK _ _ h
theorem step_run {ops : Array Oper} {o : Oper} {a : Act} {Kx : Act → World → Prop} {Q : Exit → Act → World → Prop} {E : Prop} (w : World) (hgd : o.guard = none) (s x : Operand) (t : TypeId)
    (ho : o.op = .call { callee := .builtin .append, args := #[s, x], argTypes := #[t, t] }) (v u v' : Value) (w' : World) (hs : a.eval s = v) (hx : a.eval x = u) (hr : (Builtin.append_ #[t, t] o.type #[v, u]).run Tryd.prog w = .ok v' w')
    (h : Kx (a.put o.dst v') w') : if Region.wanted o (yielded ops a.tmps) = true then Oper.wp Tryd.prog o a w Kx Q else E := by
  have hw : Region.wanted o (yielded ops a.tmps) = true := by simp [Region.wanted, hgd]
  rw [if_pos hw]
  unfold Oper.wp execOp
  simp only [ho, resolve, invoke, builtin, Sem.run_bind, Sem.run_pure, Result.andThen_ok, List.map_toArray, List.map_cons, List.map_nil, hs, hx, hr]
  exact h
/-- The first row, from n on, that has column c, or none. -/
theorem piv_of (ρ : Nat → Nat) (n c : Nat) : ∀ K, (∀ j, n ≤ j → j < K → (ρ j).testBit c = false) ∨ ∃ k, n ≤ k ∧ k < K ∧ (ρ k).testBit c = true ∧ ∀ i, n ≤ i → i < k → (ρ i).testBit c = false
  | 0 => .inl fun j _ h => absurd h (Nat.not_lt_zero _)
  | K + 1 => by
    rcases piv_of ρ n c K with h | ⟨k, h1, h2, h3, h4⟩
    · by_cases hn : n ≤ K
      · cases hv : (ρ K).testBit c with
        | true => exact .inr ⟨K, hn, by omega, hv, fun i h1 h2 => h i h1 h2⟩
        | false =>
          refine .inl fun j h1 h2 => ?_
          by_cases e : j = K
          · rw [e]; exact hv
          · exact h j h1 (by omega)
      · refine .inl fun j h1 h2 => ?_
        omega
    · exact .inr ⟨k, h1, by omega, h3, h4⟩
/-- Rows ahead of i are done. -/
def clri (σ : Nat → Nat) (n c i : Nat) : Nat → Nat := fun q => if q < i then clr σ n c q else σ q
theorem clri_step_yes {σ : Nat → Nat} {n c i : Nat} (h : i ≠ n ∧ (σ i).testBit c = true) : upd (clri σ n c i) i (σ i ^^^ σ n) = clri σ n c (i + 1) := by
  funext q
  unfold clri
  by_cases e : q = i
  · rw [e, upd_at, if_pos (by omega)]
    unfold clr
    rw [if_pos h]
  · rw [upd_ne e]
    by_cases h1 : q < i
    · rw [if_pos h1, if_pos (by omega)]
    · rw [if_neg h1, if_neg (by omega)]
theorem clri_step_no {σ : Nat → Nat} {n c i : Nat} (h : ¬ (i ≠ n ∧ (σ i).testBit c = true)) : clri σ n c i = clri σ n c (i + 1) := by
  funext q
  unfold clri
  by_cases e : q = i
  · rw [e, if_neg (by omega), if_pos (by omega)]
    unfold clr
    rw [if_neg h]
  · by_cases h1 : q < i
    · rw [if_pos h1, if_pos (by omega)]
    · rw [if_neg h1, if_neg (by omega)]
theorem clri_self {σ : Nat → Nat} {n c i : Nat} : clri σ n c i n = σ n := by
  unfold clri clr
  by_cases h : n < i
  · rw [if_pos h, if_neg (by simp)]
  · rw [if_neg h]
theorem clri_now {σ : Nat → Nat} {n c i : Nat} : clri σ n c i i = σ i := by unfold clri; rw [if_neg (Nat.lt_irrefl _)]
theorem swp_upd (ρ : Nat → Nat) (n k : Nat) : upd (upd ρ n (ρ k)) k (ρ n) = swp ρ n k := by
  funext q
  unfold swp
  by_cases e : q = n
  · rw [if_pos e]
    by_cases e2 : q = k
    · rw [e2, upd_at, ← e2, e]
    · rw [upd_ne e2, e, upd_at]
  · rw [if_neg e]
    by_cases e2 : q = k
    · rw [if_pos e2, e2, upd_at]
    · rw [if_neg e2, upd_ne e2, upd_ne e]
end Go.Proofs.YtdobhdhgmbmhfaaDoor
