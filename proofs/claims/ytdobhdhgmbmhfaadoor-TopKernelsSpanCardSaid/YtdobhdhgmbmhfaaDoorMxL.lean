/- The specification's Times. -/
import Derived.Test.YtdobhdhgmbmhfaaDoorMxG
import Derived.Test.YtdobhdhgmbmhfaaDoorMxH
import Derived.WalkKit
import Derived.WalkSpells
import Derived.WalkLawsBesides
import Derived.Handy
import Derived.Deep.QuietTactic
import Derived.BigQuiet
import Derived.Outline
import Derived.Laws.BitsAllLaws
import Derived.IntWalk
import Derived.Lib.SmallJoins
import Derived.Lib.Hide
import Derived.Deep.DeepCutAuto
import Derived.LoopTactic
import Derived.Deep.RegionWith
import Derived.Laws.CopyOwn
import Derived.Maps.OwnOps
import Derived.Maps.OwnSet
import Derived.Laws.OwnMore
import Derived.Maps.AppendAt
import Derived.RangeFuncNested
import Derived.RangeFuncBound
import Derived.RangeFuncCalls
import Derived.RangeFuncLeaves
import Derived.RangeFuncBox
import Derived.RangeFuncFrom
import Derived.Shelf.Abstract
import Derived.Shelf.RegionOpen
import Derived.OwnWalkIn
import Derived.TacticsInMore
import Derived.LoopNIn
import Derived.LoopIn
import Derived.Deep.RegionHeld3
import Derived.RegionTactic
import Derived.ChangeAlike
import Derived.Deep.RegionLaw
import Derived.Deep.AppendLies
namespace Go.Proofs.YtdobhdhgmbmhfaaDoor
set_option linter.unusedVariables false
set_option linter.unusedSimpArgs false
open Go.RowKit

/-- A row of the call's own is appended to a row of rows, at a step of a region that draws. -/
theorem step_app {ops : Array Oper} {o : Oper} {a : Act} {Kx : Act → World → Prop} {Q : Exit → Act → World → Prop} {E : Prop} (w : World) (hgd : o.guard = none) (s x : Operand)
    (ho : o.op = .call { callee := .builtin .append, args := #[s, x], argTypes := #[22, 22] })
    (R : Nat) (v : Value) (k : Nat) (vs : List Value) (L : Nat → List Int) (u : Value) (b : Nat) (hs : a.eval s = v) (h : Rws w R v k vs L) (hu : Row w R u (L k)) (hux : u.ownBlock = none ∨ u.ownBlock ≠ v.ownBlock)
    (hx : a.eval x = .slice (some ⟨b, 0, none⟩) 1 1) (hc : w.cell? ⟨b, 0, none⟩ = some u) (hk : k ≤ 1000000) (hR : R ≤ w.heap.size)
    (hn : ∀ g cap w', Rws w' R (.slice (some ⟨g, 0, none⟩) (k + 1) cap) (k + 1) (vs ++ [u]) L → Below R w w' → Kx (a.put o.dst (.slice (some ⟨g, 0, none⟩) (k + 1) cap)) w') :
    if Region.wanted o (yielded ops a.tmps) = true then Oper.wp Tryd.prog o a w Kx Q else E := by
  obtain ⟨i0, hi, hz0, hz1, hz2⟩ := info_parts infoL
  refine step_append_lies w hgd s x 22 ho R 25 i0 (.slice none 0 0) 1 24 Tryd.underlying22 hi hz0 hz1 hz2 rfl (by decide) v k vs hs h.own ⟨b, 0, none⟩ 1 1 [u] hx rfl ?_ ?_ (by decide) (by unfold maxLen; omega) (by omega) hR _ rfl ?_
  · intro j y hy
    match j, hy with
    | 0, hy => simp at hy; subst hy; exact hc
    | j + 1, hy => simp at hy
  · intro y hy; simp at hy; rw [hy]; exact hu.one
  · intro g cap w' hown hgrow hat hlt
    refine hn g cap w' (h.step hu hux hown hgrow ?_) ((Below.refl _ _).grown hgrow hR ?_)
    · rcases hat with e | e
      · left; rw [e]; rfl
      · right; rw [← e]; rfl
    · intro j hj
      rcases own_cases h.own with ⟨rfl, _⟩ | ⟨g', cap', rfl, hR', _⟩
      · exact absurd hj (by simp [Value.ownBlock])
      · have : g' = j := by simpa [Value.ownBlock] using hj
        omega
theorem Rws.new {w : World} {R k : Nat} {v u : Value} {vs : List Value} {L : Nat → List Int} {l : List Int} {w' : World} (h : Rws w R v k vs L) (hu : Row w' w.heap.size u l) : u.ownBlock = none ∨ u.ownBlock ≠ v.ownBlock := by
  rcases hu.cases with ⟨rfl, _⟩ | ⟨g, cap, rfl, hg, _⟩
  · exact .inl rfl
  · right
    intro e
    rcases own_cases h.own with ⟨rfl, _⟩ | ⟨g', cap', rfl, _, hg', _⟩
    · simp [Value.ownBlock] at e
    · have : g = g' := by simpa [Value.ownBlock] using e
      omega
theorem Rws.nil (w : World) (R : Nat) (L : Nat → List Int) : Rws w R (.slice none 0 0) 0 [] L := ⟨⟨rfl, .inl ⟨rfl, rfl⟩⟩, fun c hc => absurd hc (Nat.not_lt_zero _)⟩
theorem mx_rws {w : World} {R K C : Nat} {v : Value} {vs : List Value} {r : Nat → Nat} (h : Rws w R v K vs fun c => ints (el C (r c))) : ∃ o cap, v = .slice o K cap ∧ Mx w o K C r := h.ls
theorem Rws.le {w : World} {R R' k : Nat} {v : Value} {vs : List Value} {L : Nat → List Int} (h : Rws w R v k vs L) (hR : R' ≤ R) : Rws w R' v k vs L := by
  refine ⟨⟨h.own.1, ?_⟩, fun c hc => by obtain ⟨u, h1, h2, h3⟩ := h.rows c hc; exact ⟨u, h1, h2.le hR, h3⟩⟩
  rcases h.own.2 with h0 | ⟨g, cap, cur, h1, h2, h3⟩
  · exact .inl h0
  · exact .inr ⟨g, cap, cur, h1, by omega, h3⟩
/-- A matrix of rows that lie from block R on. -/
def Mn (R : Nat) (w : World) (o : Option Addr) (K cap N : Nat) (r : Nat → Nat) : Prop := ∃ vs, Rws w R (.slice o K cap) K vs fun c => ints (el N (r c))
theorem Mn.mx {R : Nat} {w : World} {o : Option Addr} {K cap N : Nat} {r : Nat → Nat} (h : Mn R w o K cap N r) : Mx w o K N r := by
  obtain ⟨vs, h⟩ := h
  obtain ⟨o', cap', e, hm⟩ := h.ls
  cases e
  exact hm
theorem Mn.below {R : Nat} {w W : World} {o : Option Addr} {K cap N : Nat} {r : Nat → Nat} (h : Mn R w o K cap N r) (hb : Below w.heap.size w W) : Mn R W o K cap N r := by
  obtain ⟨vs, h⟩ := h
  exact ⟨vs, h.below hb⟩
theorem Mn.le {R R' : Nat} {w : World} {o : Option Addr} {K cap N : Nat} {r : Nat → Nat} (h : Mn R w o K cap N r) (hR : R' ≤ R) : Mn R' w o K cap N r := by
  obtain ⟨vs, h⟩ := h
  exact ⟨vs, h.le hR⟩
theorem Mn.nil (R : Nat) (w : World) (N : Nat) (r : Nat → Nat) : Mn R w none 0 0 N r := ⟨[], Rws.nil _ _ _⟩
theorem news_one (w : World) (u : Value) (t : TypeId) : (w.alloc (.cells #[u] t)).cell? ⟨w.heap.size, 0, none⟩ = some u := World.cell?_alloc_mark _ #[_] t (0, 0) 0
/-- The result under way: in the block X the number of columns and the rows so far. -/
structure Out (W V : World) (X : Nat) (C : Int) (k : Nat) (L : Nat → List Int) (v : Value) (vs : List Value) : Prop where
  box : Box V X #[.int .i64 C, v] 24
  rws : Rws V (X + 1) v k vs L
  bel : Below X W V
theorem Out.below {W V y : World} {X k : Nat} {C : Int} {L : Nat → List Int} {v : Value} {vs : List Value} (h : Out W V X C k L v vs) (hb : Below V.heap.size V y) : Out W y X C k L v vs :=
  ⟨h.box.below hb h.box.lt, h.rws.below hb, h.bel.trans (hb.mono (Nat.le_of_lt h.box.lt))⟩
theorem Out.drew {W V : World} {X k : Nat} {C : Int} {L : Nat → List Int} {v : Value} {vs : List Value} (h : Out W V X C k L v vs) (n : Nat) : Out W (V.drewN n) X C k L v vs := h.below (below_dn n (Below.refl _ _))
/-- A field of the block at hand is about to be written anew. -/
structure Out1 (W V : World) (X : Nat) (C : Int) (k : Nat) (L : Nat → List Int) (v v' : Value) (vs : List Value) : Prop where
  box : Box V X #[.int .i64 C, v] 24
  rws : Rws V (X + 1) v' k vs L
  bel : Below X W V
theorem Out.app {W y V w1 : World} {X k : Nat} {C : Int} {L : Nat → List Int} {v v' : Value} {vs vs' : List Value} (h : Out W y X C k L v vs) (hb : Below y.heap.size y V) (hr : Rws w1 (X + 1) v' (k + 1) vs' L) (h1 : Below (X + 1) V w1) : Out1 W w1 X C (k + 1) L v v' vs' :=
  ⟨(h.below hb).box.below h1 (Nat.lt_succ_self _), hr, (h.below hb).bel.trans (h1.mono (Nat.le_succ _))⟩
theorem Out1.fin {W w1 : World} {X k : Nat} {C : Int} {L : Nat → List Int} {v v' : Value} {vs : List Value} (h : Out1 W w1 X C k L v v' vs) : Out W (w1.setCell ⟨X, 1, none⟩ v') X C k L v' vs :=
  ⟨h.box.set 1 v', ⟨own_keep h.rws.own fun j hj hj2 => Below.heap_setCell _ _ _ _ (by simp; omega), fun c hc => by
    obtain ⟨u, h1, h2, h3⟩ := h.rws.rows c hc
    exact ⟨u, h1, own_keep h2 fun j hj hj2 => Below.heap_setCell _ _ _ _ (by simp; omega), h3⟩⟩, h.bel.setCell (Nat.le_refl _) _⟩
theorem Rws.set {w : World} {R k : Nat} {v : Value} {vs : List Value} {L : Nat → List Int} (h : Rws w R v k vs L) {b i : Nat} (hb : b < R) (x : Value) : Rws (w.setCell ⟨b, i, none⟩ x) R v k vs L :=
  ⟨own_keep h.own fun j hj hj2 => Below.heap_setCell _ _ _ _ (by simp; omega), fun c hc => by
    obtain ⟨u, h1, h2, h3⟩ := h.rows c hc
    exact ⟨u, h1, own_keep h2 fun j hj hj2 => Below.heap_setCell _ _ _ _ (by simp; omega), h3⟩⟩
theorem Mn.set {R : Nat} {w : World} {o : Option Addr} {K cap N : Nat} {r : Nat → Nat} (h : Mn R w o K cap N r) {b i : Nat} (hb : b < R) (x : Value) : Mn R (w.setCell ⟨b, i, none⟩ x) o K cap N r := by
  obtain ⟨vs, h⟩ := h
  exact ⟨vs, h.set hb x⟩
end Go.Proofs.YtdobhdhgmbmhfaaDoor
