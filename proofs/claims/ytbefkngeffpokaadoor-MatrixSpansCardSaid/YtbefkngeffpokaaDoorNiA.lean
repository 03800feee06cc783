/- A clone of the rows, and a further row: more. -/
import Derived.Test.YtbefkngeffpokaaDoorMyZ
import Derived.WalkKit
import Derived.WalkSpells
import Derived.WalkLawsBesides
import Derived.Handy
import Derived.Deep.QuietTactic
import Derived.BigQuiet
import Derived.Outline
import Derived.Laws.BitsAllLaws
import Derived.IntWalk
import Derived.Lib.SmallJoins
import Derived.Lib.Hide
import Derived.Deep.DeepCutAuto
import Derived.LoopTactic
import Derived.Deep.RegionWith
import Derived.Laws.CopyOwn
import Derived.Maps.OwnOps
import Derived.Maps.OwnSet
import Derived.Laws.OwnMore
import Derived.Maps.AppendAt
import Derived.RangeFuncNested
import Derived.RangeFuncBound
import Derived.RangeFuncCalls
import Derived.RangeFuncLeaves
import Derived.RangeFuncBox
import Derived.RangeFuncFrom
import Derived.Shelf.Abstract
import Derived.Shelf.RegionOpen
import Derived.OwnWalkIn
import Derived.TacticsInMore
import Derived.LoopNIn
import Derived.LoopIn
import Derived.Deep.RegionHeld3
import Derived.RegionTactic
import Derived.ChangeAlike
namespace Go.Proofs.YtbefkngeffpokaaDoor
set_option linter.unusedVariables false
set_option linter.unusedSimpArgs false
open Go.RowKit


abbrev OwnL (w : World) (R : Nat) (v : Value) (n : Nat) (us : List Value) : Prop := w.ownsRow R 25 1 v n us
theorem own_le {w : World} {R R' : Nat} {e : TypeId} {v : Value} {n : Nat} {xs : List Value} (h : w.ownsRow R e 1 v n xs) (hR : R' ≤ R) : w.ownsRow R' e 1 v n xs := by
  refine ⟨h.1, ?_⟩
  rcases h.2 with h0 | ⟨g, cap, cur, h1, h2, h3⟩
  · exact .inl h0
  · exact .inr ⟨g, cap, cur, h1, by omega, h3⟩
theorem ownA {w : World} {R n : Nat} {e : TypeId} {v : Value} {xs : List Value} (h : w.ownsRow R e 1 v n xs) (o : Obj) : (w.alloc o).ownsRow R e 1 v n xs := own_keep h fun k _ hk => Below.heap_alloc w o k hk
theorem ownB {w y : World} {R n : Nat} {e : TypeId} {v : Value} {xs : List Value} (h : w.ownsRow R e 1 v n xs) (hb : Below w.heap.size w y) : y.ownsRow R e 1 v n xs := own_keep h fun k _ hk => hb.block k hk
theorem Box.blw {w y : World} {b : Nat} {c : Array Value} {t : TypeId} (h : Box w b c t) (hb : Below w.heap.size w y) : Box y b c t := h.below hb h.lt
/-- Blocks of two types are two blocks. -/
theorem Box.ne {w : World} {b b' : Nat} {c c' : Array Value} {t t' : TypeId} (h : Box w b c t) (h' : Box w b' c' t') (ht : t ≠ t') : b ≠ b' := by
  rintro rfl
  have := h.symm.trans h'
  simp at this
  exact ht this.2
/-- What an own row is: nothing, or a block of its type. -/
theorem own_box {w : World} {R n : Nat} {e : TypeId} {v : Value} {xs : List Value} (h : w.ownsRow R e 1 v n xs) : (v = .slice none 0 0 ∧ n = 0) ∨ ∃ g cap cur, v = .slice (some ⟨g, 0, none⟩) n cap ∧ R ≤ g ∧ Box w g cur e ∧ ∀ i, i < n → cur[i]? = xs[i]? := by
  rcases h.2 with ⟨h0, h1⟩ | ⟨g, cap, cur, h0, hHL, hLc, hcl, hcm, hcs, htk⟩
  · exact .inl ⟨h0, h1⟩
  · refine .inr ⟨g, cap, cur, h0, hHL, hLc, fun i hi => ?_⟩
    rw [← htk, List.getElem?_take, if_pos (by omega), Array.getElem?_toList]
/-- The rows of a matrix, as values. -/
def Rm (W : World) (C : Nat) (r : Nat → Nat) (K : Nat) (us : List Value) : Prop := ∀ i, i < K → ∃ oc cc, us[i]? = some (.slice oc (el C (r i)).length cc) ∧ Lz W oc (el C (r i)).length (lz (el C (r i)))
theorem mx_vals {W : World} {o : Option Addr} {K C : Nat} {r : Nat → Nat} (h : Mx W o K C r) : ∃ us : List Value, us.length = K ∧ Rm W C r K us ∧ (0 < K → ∃ b off, o = some ⟨b, off, none⟩ ∧ b < W.heap.size ∧ ∀ j u, us[j]? = some u → W.cell? ⟨b, off + j, none⟩ = some u) ∧ ∀ u, u ∈ us → u.oneCell' = true := by
  by_cases hK : 0 < K
  · obtain ⟨b, off, rfl, hb, hc⟩ := h hK
    have h1 : ∀ i, ∃ v : Value, i < K → W.cell? ⟨b, off + i, none⟩ = some v ∧ v.oneCell' = true ∧ ∃ oc cap, v = .slice oc (el C (r i)).length cap ∧ Lz W oc (el C (r i)).length (lz (el C (r i))) := fun i => by
      by_cases hi : i < K
      · obtain ⟨oc, cc, h2, h3⟩ := hc i hi
        rw [ints_len] at h2 h3
        exact ⟨_, fun _ => ⟨h2, by simp [Value.oneCell'], oc, cc, rfl, h3.congr fun j _ => ints_at _ j⟩⟩
      · exact ⟨.bool false, fun h => absurd h hi⟩
    obtain ⟨u, hu⟩ := Classical.axiomOfChoice h1
    refine ⟨(List.range K).map u, by simp, fun i hi => ?_, fun _ => ⟨b, off, rfl, hb, fun j x hx => ?_⟩, fun x hx => ?_⟩
    · obtain ⟨_, _, oc, cc, e, hz⟩ := hu i hi
      exact ⟨oc, cc, by simp [hi, e], hz⟩
    · rw [List.getElem?_map] at hx
      by_cases hj : j < K
      · rw [List.getElem?_range hj] at hx
        simp at hx
        rw [← hx]
        exact (hu j hj).1
      · rw [List.getElem?_eq_none (by simp; omega)] at hx
        simp at hx
    · obtain ⟨i, hi, rfl⟩ := List.mem_map.1 hx
      exact (hu i (List.mem_range.1 hi)).2.1
  · obtain rfl : K = 0 := by omega
    exact ⟨[], rfl, fun i hi => absurd hi (Nat.not_lt_zero _), fun h => absurd h (Nat.lt_irrefl _), fun u hu => by simp at hu⟩
set_option maxRecDepth 100000 in
set_option maxHeartbeats 2000000 in
theorem clone_any (K C : Nat) (hK : K ≤ 1000) (r : Nat → Nat) (o : Option Addr) (cap : Nat) (V : World) (hM : Mx V o K C r) : ∀ us : List Value, us.length = K → (0 < K → ∃ b off, o = some ⟨b, off, none⟩ ∧ b < V.heap.size ∧ ∀ j u, us[j]? = some u → V.cell? ⟨b, off + j, none⟩ = some u) → (∀ u, u ∈ us → u.oneCell' = true) →
    Calls Tryd.prog 39 #[.slice o K cap] V fun e y => ∃ v, e = .returned v ∧ OwnL y V.heap.size v K us ∧ Below V.heap.size V y := by
  intro us hl hcell hone
  have heq : ∀ (W : World) (q : Option Addr), (binOp BinOp.eql 22 (Value.slice q K cap) (Value.slice none 0 0)).run Tryd.prog W = .ok (.bool q.isNone) W := fun W q => Lib.run_eql_slice_nil W _ _ _ _ _ _ _ Tryd.underlying22
  cases o with
  | none =>
    have hK0 : K = 0 := by
      by_cases h : 0 < K
      · obtain ⟨b, off, e, _⟩ := hcell h
        cases e
      · omega
    subst hK0
    obtain rfl : us = [] := List.eq_nil_of_length_eq_zero hl
    clear hM hcell hone hl
    go_enter Tryd.func39, Tryd.ntmps39
    go_wp2_with fail
    exact bodyPost_ret (v := .slice none 0 0) (by simp [results, Tryd.results39, go_sem]) rfl ⟨_, rfl, World.ownsRow_nil _ _ _ _, Below.refl _ _⟩
  | some ad =>
    obtain ⟨i0, hi, hz0, hz1, hz2⟩ := info_parts infoL
    have hbel0 : Below V.heap.size V (V.alloc (.cells #[] 25)) := (Below.refl _ _).alloc (Nat.le_refl _) _
    obtain ⟨v', w', hrun, hown, hgrow, _, hat⟩ := run_append_own_at (P := Tryd.prog) (w := V.alloc (.cells #[] 25)) V.heap.size 22 22 25 i0 (.slice none 0 0) 1 24 Tryd.underlying22 hi hz0 hz1 hz2 rfl (by decide) (.slice (some ⟨V.heap.size, 0, none⟩) 0 0) 0 [] (World.ownsRow_lit V #[] 0 (Nat.le_refl _) (by decide) rfl) ad K cap us (by omega) (fun j x hx => by
        by_cases h : 0 < K
        · obtain ⟨b, off, e, hb, hc⟩ := hcell h
          obtain rfl := Option.some.inj e
          rw [addr_add]
          exact (hbel0.cell (p := ⟨b, off + j, none⟩) hb).trans (hc j x hx)
        · rw [List.getElem?_eq_none (by omega)] at hx
          cases hx) hone (by unfold maxLen; omega) (by omega) hbel0.size
    rw [Nat.zero_add, List.nil_append] at hown
    have HBel := Lib.hid (hbel0.grown hgrow hbel0.size (fun k hk => by
      simp [Value.ownBlock] at hk
      omega))
    have HOwn := Lib.hid hown
    have HRun := Lib.hid hrun
    clear hM hcell hone hl hbel0 hown hgrow hat hrun hi hz0 hz1 hz2
    go_enter Tryd.func39, Tryd.ntmps39
    go_wp2_with (at_builtin; refine wl_run _ rfl _ _ 22 rfl _ _ _ _ rfl rfl HRun.out ?_)
    go_ret
    exact ⟨_, rfl, HOwn.out, HBel.out⟩
/-- Rows and a further row: what stands behind the append. -/
structure Mo (W w : World) (g cap K C : Nat) (r : Nat → Nat) (us : List Value) (u : Value) (z : Nat) : Prop where
  own : OwnL w W.heap.size (.slice (some ⟨g, 0, none⟩) (K + 1) cap) (K + 1) (us ++ [u])
  len : us.length = K
  rm : Rm W C r K us
  row : Row w W.heap.size u (ints (el C z))
  bel : Below W.heap.size W w
theorem Mo.alloc {W w : World} {g cap K C z : Nat} {r : Nat → Nat} {us : List Value} {u : Value} (h : Mo W w g cap K C r us u z) (o : Obj) : Mo W (w.alloc o) g cap K C r us u z := ⟨ownA h.own o, h.len, h.rm, Row.alloc h.row o, h.bel.alloc h.bel.size o⟩
/-- A block of matrices' cells may be written: the rows stand. -/
theorem Mo.mx {W w w' : World} {g cap K C z b9 : Nat} {r : Nat → Nat} {us : List Value} {u : Value} {c9 : Array Value} (h : Mo W w g cap K C r us u z) (h9 : Box w b9 c9 24) (hW9 : W.heap.size ≤ b9) (hk : ∀ k, k < w.heap.size → k ≠ b9 → w'.heap[k]? = w.heap[k]?) (hb : Below W.heap.size W w') : Mx w' (some ⟨g, 0, none⟩) (K + 1) C (upd r K z) := fun _ => by
  rcases own_box h.own with ⟨e, _⟩ | ⟨g', cap', cur, e, hR, hbx, hcur⟩
  · cases e
  · obtain ⟨rfl, _⟩ : g = g' ∧ cap = cap' := by simpa using e
    have hbx' : Box w' g cur 25 := (hk g hbx.lt (hbx.ne h9 (by decide))).trans hbx
    refine ⟨g, 0, rfl, hbx'.lt, fun i hi => ?_⟩
    by_cases hiK : i < K
    · obtain ⟨oc, cc, h1, h2⟩ := h.rm i hiK
      refine ⟨oc, cc, ?_, ?_⟩
      · dsimp only
        rw [Nat.zero_add, hbx'.cell, hcur i (by omega), List.getElem?_append_left (by rw [h.len]; exact hiK), h1, upd_ne (by omega), ints_len]
      · dsimp only
        rw [upd_ne (by omega), ints_len]
        exact (h2.below hb).congr fun j _ => (ints_at _ j).symm
    · obtain rfl : i = K := by omega
      have hrow : Row w' W.heap.size u (ints (el C z)) := by
        refine ⟨h.row.1, ?_⟩
        rcases h.row.2 with h0 | ⟨g', cap', cur', h1, h2, h3, h4⟩
        · exact .inl h0
        · exact .inr ⟨g', cap', cur', h1, h2, (hk g' (Array.getElem?_eq_some_iff.1 h3).1 ((show Box w g' cur' 3 from h3).ne h9 (by decide))).trans h3, h4⟩
      obtain ⟨ou, cu, hu, hz⟩ := hrow.lz
      subst hu
      refine ⟨ou, cu, ?_, ?_⟩
      · dsimp only
        rw [Nat.zero_add, hbx'.cell, hcur i (by omega), List.getElem?_append_right (by rw [h.len]; exact Nat.le_refl _), h.len, Nat.sub_self, upd_at, ints_len]
        rfl
      · dsimp only
        rw [upd_at, ints_len]
        exact hz.congr fun j _ => (ints_at _ j).symm
/-- What the region leaves. -/
def More (W wx : World) (C K : Nat) (r : Nat → Nat) (z : Nat) (x : Value) : Prop := ∃ b g cap, x = .pointer (some ⟨b, 0, none⟩) ∧ Below W.heap.size W wx ∧ Box wx b #[.int .i64 (C : Int), .slice (some ⟨g, 0, none⟩) (K + 1) cap] 24 ∧ Mx wx (some ⟨g, 0, none⟩) (K + 1) C (upd r K z)
theorem Mo.put {W w : World} {g cap K C z b9 : Nat} {r : Nat → Nat} {us : List Value} {u v0 v1 : Value} (h : Mo W w g cap K C r us u z) (h9 : Box w b9 #[v0, v1] 24) (hW9 : W.heap.size ≤ b9) : More W ((w.setCell ⟨b9, 0, none⟩ (.int .i64 (C : Int))).setCell ⟨b9, 1, none⟩ (.slice (some ⟨g, 0, none⟩) (K + 1) cap)) C K r z (.pointer (some ⟨b9, 0, none⟩)) := by
  have hb := (h.bel.setCell (p := ⟨b9, 0, none⟩) hW9 (.int .i64 (C : Int))).setCell (p := ⟨b9, 1, none⟩) hW9 (.slice (some ⟨g, 0, none⟩) (K + 1) cap)
  exact ⟨b9, g, cap, rfl, hb, (h9.set 0 (.int .i64 (C : Int))).set 1 (.slice (some ⟨g, 0, none⟩) (K + 1) cap), h.mx h9 hW9 (fun k hk hne => (Below.heap_setCell _ _ _ _ hne).trans (Below.heap_setCell _ _ _ _ hne)) hb⟩
theorem Mo.fresh {W w : World} {g cap K C z : Nat} {r : Nat → Nat} {us : List Value} {u : Value} (h : Mo W w g cap K C r us u z) : More W (w.alloc (.cells #[.int .i64 (C : Int), .slice (some ⟨g, 0, none⟩) (K + 1) cap] 24)) C K r z (.pointer (some ⟨w.heap.size, 0, none⟩)) := by
  have hb := h.bel.alloc h.bel.size (.cells #[.int .i64 (C : Int), .slice (some ⟨g, 0, none⟩) (K + 1) cap] 24)
  have h9 := Box.new w #[.int .i64 (C : Int), .slice (some ⟨g, 0, none⟩) (K + 1) cap] 24
  exact ⟨w.heap.size, g, cap, rfl, hb, h9, (h.alloc _).mx h9 h.bel.size (fun k _ _ => rfl) hb⟩
/-- The append, as a step of a region that draws. -/
theorem step_more {ops : Array Oper} {o : Oper} {a : Act} {Kx : Act → World → Prop} {Q : Exit → Act → World → Prop} {E : Prop} (w : World) (hgd : o.guard = none) (s x : Operand)
    (ho : o.op = .call { callee := .builtin .append, args := #[s, x], argTypes := #[22, 22] })
    (W : World) (v : Value) (K C z : Nat) (r : Nat → Nat) (us : List Value) (u : Value) (b y : Nat) (hs : a.eval s = v) (hx : a.eval x = .slice (some ⟨b, 0, none⟩) 1 1) (hu : a.eval (.tmp y) = undef) (hown : OwnL w W.heap.size v K us) (hrow : Row w W.heap.size u (ints (el C z))) (hc : Box w b #[u] 25)
    (hbel : Below W.heap.size W w) (hlen : us.length = K) (hrm : Rm W C r K us) (hk : K ≤ 1000000)
    (hn : ∀ g cap w', Mo W w' g cap K C r us u z → Below W.heap.size W w' → Kx (a.put o.dst (.slice (some ⟨g, 0, none⟩) (K + 1) cap)) w') :
    if Region.wanted o (yielded ops a.tmps) = true then Oper.wp Tryd.prog o a w Kx Q else E := by
  obtain ⟨i0, hi, hz0, hz1, hz2⟩ := info_parts infoL
  refine step_append_lies w hgd s x 22 ho W.heap.size 25 i0 (.slice none 0 0) 1 24 Tryd.underlying22 hi hz0 hz1 hz2 rfl (by decide) v K us hs hown ⟨b, 0, none⟩ 1 1 [u] hx rfl ?_ ?_ (by decide) (by unfold maxLen; omega) (by omega) hbel.size _ rfl ?_
  · intro j y hy
    match j, hy with
    | 0, hy => simp at hy; subst hy; exact hc.cell 0
    | j + 1, hy => simp at hy
  · intro y hy; simp at hy; rw [hy]; exact hrow.one
  · intro g cap w' hown' hgrow hat hlt
    have hbb : Below W.heap.size W w' := hbel.grown hgrow hbel.size fun j hj => by
      rcases own_cases hown with ⟨rfl, _⟩ | ⟨g', cap', rfl, hR', _⟩
      · exact absurd hj (by simp [Value.ownBlock])
      · have : g' = j := by simpa [Value.ownBlock] using hj
        omega
    refine hn g cap w' ⟨hown', hlen, hrm, ?_, hbb⟩ hbb
    refine World.ownsRow.kept hrow hgrow ?_
    rcases own_box hrow with ⟨rfl, _⟩ | ⟨g1, c1, cur1, rfl, h1, hb1, _⟩
    · exact .inl rfl
    · right
      rcases own_box hown with ⟨rfl, _⟩ | ⟨g2, c2, cur2, rfl, h2, hb2, _⟩
      · simp [Value.ownBlock]
      · have := hb1.ne hb2 (by decide)
        simpa [Value.ownBlock] using this
/-- The same, where the block for the result stands already. -/
theorem step_more9 {ops : Array Oper} {o : Oper} {a : Act} {Kx : Act → World → Prop} {Q : Exit → Act → World → Prop} {E : Prop} (w : World) (hgd : o.guard = none) (s x : Operand)
    (ho : o.op = .call { callee := .builtin .append, args := #[s, x], argTypes := #[22, 22] })
    (W : World) (v : Value) (K C z : Nat) (r : Nat → Nat) (us : List Value) (u : Value) (b y : Nat) (b9 : Nat) (hs : a.eval s = v) (hx : a.eval x = .slice (some ⟨b, 0, none⟩) 1 1) (h9e : a.eval (.tmp y) = .pointer (some ⟨b9, 0, none⟩)) (hown : OwnL w W.heap.size v K us) (hrow : Row w W.heap.size u (ints (el C z))) (hc : Box w b #[u] 25) (h9 : Box w b9 #[.int .i64 0, .slice none 0 0] 24) (hW9 : W.heap.size ≤ b9)
    (hbel : Below W.heap.size W w) (hlen : us.length = K) (hrm : Rm W C r K us) (hk : K ≤ 1000000)
    (hn : ∀ g cap w', Mo W w' g cap K C r us u z → Below W.heap.size W w' → Box w' b9 #[.int .i64 0, .slice none 0 0] 24 → Kx (a.put o.dst (.slice (some ⟨g, 0, none⟩) (K + 1) cap)) w') :
    if Region.wanted o (yielded ops a.tmps) = true then Oper.wp Tryd.prog o a w Kx Q else E := by
  obtain ⟨i0, hi, hz0, hz1, hz2⟩ := info_parts infoL
  refine step_append_lies w hgd s x 22 ho W.heap.size 25 i0 (.slice none 0 0) 1 24 Tryd.underlying22 hi hz0 hz1 hz2 rfl (by decide) v K us hs hown ⟨b, 0, none⟩ 1 1 [u] hx rfl ?_ ?_ (by decide) (by unfold maxLen; omega) (by omega) hbel.size _ rfl ?_
  · intro j y hy
    match j, hy with
    | 0, hy => simp at hy; subst hy; exact hc.cell 0
    | j + 1, hy => simp at hy
  · intro y hy; simp at hy; rw [hy]; exact hrow.one
  · intro g cap w' hown' hgrow hat hlt
    have hbb : Below W.heap.size W w' := hbel.grown hgrow hbel.size fun j hj => by
      rcases own_cases hown with ⟨rfl, _⟩ | ⟨g', cap', rfl, hR', _⟩
      · exact absurd hj (by simp [Value.ownBlock])
      · have : g' = j := by simpa [Value.ownBlock] using hj
        omega
    have h9' : Box w' b9 #[.int .i64 0, .slice none 0 0] 24 := h9.grown hgrow (by
      rcases own_box hown with ⟨rfl, _⟩ | ⟨g2, c2, cur2, rfl, h2, hb2, _⟩
      · simp [Value.ownBlock]
      · have := h9.ne hb2 (by decide)
        simpa [Value.ownBlock] using this)
    refine hn g cap w' ⟨hown', hlen, hrm, ?_, hbb⟩ hbb h9'
    refine World.ownsRow.kept hrow hgrow ?_
    rcases own_box hrow with ⟨rfl, _⟩ | ⟨g1, c1, cur1, rfl, h1, hb1, _⟩
    · exact .inl rfl
    · right
      rcases own_box hown with ⟨rfl, _⟩ | ⟨g2, c2, cur2, rfl, h2, hb2, _⟩
      · simp [Value.ownBlock]
      · have := hb1.ne hb2 (by decide)
        simpa [Value.ownBlock] using this
/-- A sum of rows added as a further row changes no sum. -/
theorem more_eqs {K z : Nat} {r : Nat → Nat} (hz : Sp (rows K r) z) : Eqs (rows (K + 1) (upd r K z)) (rows K r) := by
  constructor
  · intro x hx
    obtain ⟨i, hi, rfl⟩ := rows_mem.1 hx
    by_cases e : i = K
    · rw [e, upd_at]; exact hz
    · rw [upd_ne e]; exact rows_sp (by omega)
  · intro x hx
    obtain ⟨i, hi, rfl⟩ := rows_mem.1 hx
    have h := rows_sp (K := K + 1) (ρ := upd r K z) (i := i) (by omega)
    rwa [upd_ne (by omega)] at h
theorem Can.of_eqs {C : Nat} {M M' T : List Nat} {τ : Nat → Nat} (h : Can C M T τ) (e : Eqs M' M) : Can C M' T τ := ⟨h.lt, h.ech, e.trans h.eqs, h.out⟩
theorem Can.own {C : Nat} {M T : List Nat} {τ : Nat → Nat} (h : Can C M T τ) : Can C (rows T.length fun i => τ (T.getD i 0)) T τ := ⟨h.lt, h.ech, by rw [Can.rows_eq]; exact Eqs.refl _, h.out⟩
theorem cmb_snoc : ∀ (R ps : List Nat) (x p v : Nat), R.length = ps.length → cmb (R ++ [x]) (ps ++ [p]) v = cmb R ps v ^^^ (if v.testBit p then x else 0)
  | [], [], x, p, v, _ => by
    show (if v.testBit p then x else 0) ^^^ cmb [] [] v = cmb [] [] v ^^^ _
    have e : cmb [] [] v = 0 := by unfold cmb; rfl
    rw [e, Nat.zero_xor, Nat.xor_zero]
  | r :: R, q :: ps, x, p, v, h => by
    show (if v.testBit q then r else 0) ^^^ cmb (R ++ [x]) (ps ++ [p]) v = ((if v.testBit q then r else 0) ^^^ cmb R ps v) ^^^ _
    rw [cmb_snoc R ps x p v (by simpa using h), Nat.xor_assoc]
  | [], _ :: _, _, _, _, h => by simp at h
  | _ :: _, [], _, _, _, h => by simp at h
/-- What is left of v when the first i rows of the echelon form are taken off. -/
def lft (T : List Nat) (τ : Nat → Nat) (v i : Nat) : Nat := v ^^^ cmb ((T.take i).map τ) (T.take i) v
theorem lft_zero (T : List Nat) (τ : Nat → Nat) (v : Nat) : lft T τ v 0 = v := by
  unfold lft
  rw [List.take_zero]
  show v ^^^ cmb [] [] v = v
  have e : cmb [] [] v = 0 := by unfold cmb; rfl
  rw [e, Nat.xor_zero]
theorem lft_step {T : List Nat} (τ : Nat → Nat) (v : Nat) {i : Nat} (hi : i < T.length) : lft T τ v (i + 1) = if v.testBit (T.getD i 0) then lft T τ v i ^^^ τ (T.getD i 0) else lft T τ v i := by
  have e : T.take (i + 1) = T.take i ++ [T.getD i 0] := take_getD hi
  unfold lft
  rw [e, List.map_append, List.map_singleton, cmb_snoc _ _ _ _ _ (by simp), ← Nat.xor_assoc]
  by_cases h : v.testBit (T.getD i 0) = true
  · rw [if_pos h, if_pos h]
  · rw [if_neg h, if_neg h, Nat.xor_zero]
theorem lft_end {C : Nat} {M T : List Nat} {τ : Nat → Nat} (h : Can C M T τ) {v : Nat} (hv : Sp M v) : lft T τ v T.length = 0 := by
  unfold lft
  rw [List.take_length, h.ech.sum ((h.eqs.sp).1 hv), Nat.xor_self]

end Go.Proofs.YtbefkngeffpokaaDoor
