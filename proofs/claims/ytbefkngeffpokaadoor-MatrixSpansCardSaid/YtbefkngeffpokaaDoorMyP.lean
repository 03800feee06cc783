/- Kernel of the package: the state of its second loop. -/
import Derived.Test.YtbefkngeffpokaaDoorMyD
import Derived.Test.YtbefkngeffpokaaDoorMyH
import Derived.WalkKit
import Derived.WalkSpells
import Derived.WalkLawsBesides
import Derived.Handy
import Derived.Deep.QuietTactic
import Derived.BigQuiet
import Derived.Outline
import Derived.Laws.BitsAllLaws
import Derived.IntWalk
import Derived.Lib.SmallJoins
import Derived.Lib.Hide
import Derived.Deep.DeepCutAuto
import Derived.LoopTactic
import Derived.Deep.RegionWith
import Derived.Laws.CopyOwn
import Derived.Maps.OwnOps
import Derived.Maps.OwnSet
import Derived.Laws.OwnMore
import Derived.Maps.AppendAt
import Derived.RangeFuncNested
import Derived.RangeFuncBound
import Derived.RangeFuncCalls
import Derived.RangeFuncLeaves
import Derived.RangeFuncBox
import Derived.RangeFuncFrom
import Derived.Shelf.Abstract
import Derived.Shelf.RegionOpen
import Derived.OwnWalkIn
import Derived.TacticsInMore
import Derived.LoopNIn
import Derived.LoopIn
import Derived.Deep.RegionHeld3
import Derived.RegionTactic
import Derived.ChangeAlike
namespace Go.Proofs.YtbefkngeffpokaaDoor
set_option linter.unusedVariables false
set_option linter.unusedSimpArgs false
open Go.RowKit


/-- The kernel under way: in the block X the rows so far, in the block G the members, from c on as they were. -/
structure Ks (w : World) (R G X C : Nat) (vb v : Value) (k : Nat) (vs : List Value) (Lk : Nat → List Int) (c : Nat) (V : Nat → Value) (Lm : Nat → List Int) : Prop where
  kbox : Box w X #[.int .i64 (C : Int), vb] 24
  rws : Rws w R v k vs Lk
  vX : v.ownBlock ≠ some X
  rX : ∀ i u, i < k → vs[i]? = some u → u.ownBlock ≠ some X ∧ ∀ d, c ≤ d → d < C → u.ownBlock = none ∨ u.ownBlock ≠ (V d).ownBlock
  gbox : Box w G (vcells C V) 25
  mem : ∀ d, c ≤ d → d < C → Row w R (V d) (Lm d) ∧ (V d).ownBlock ≠ some X ∧ ((V d).ownBlock = none ∨ (V d).ownBlock ≠ v.ownBlock)
  apart : ∀ d d', c ≤ d → d < C → c ≤ d' → d' < C → d ≠ d' → (V d).ownBlock = none ∨ (V d).ownBlock ≠ (V d').ownBlock
  gr : G < R
  xr : R ≤ X
section
variable {w w' : World} {R G X C k c : Nat} {vb v : Value} {vs : List Value} {Lk Lm : Nat → List Int} {V : Nat → Value}
theorem rws_kept (h : Rws w R v k vs Lk) (hk : ∀ j, R ≤ j → j < w.heap.size → (v.ownBlock = some j ∨ ∃ i u, i < k ∧ vs[i]? = some u ∧ u.ownBlock = some j) → w'.heap[j]? = w.heap[j]?) : Rws w' R v k vs Lk :=
  ⟨own_kept h.own fun j hj hl => hk j (own_lt h.own hj).1 hl (.inl hj), fun i hi => by
    obtain ⟨u, h1, h2, h3⟩ := h.rows i hi
    exact ⟨u, h1, own_kept h2 fun j hj hl => hk j (own_lt h2 hj).1 hl (.inr ⟨i, u, hi, h1, hj⟩), h3⟩⟩
theorem Ks.below (h : Ks w R G X C vb v k vs Lk c V Lm) (hb : Below w.heap.size w w') : Ks w' R G X C vb v k vs Lk c V Lm :=
  ⟨h.kbox.below hb h.kbox.lt, h.rws.below hb, h.vX, h.rX, h.gbox.below hb h.gbox.lt, fun d h1 h2 => ⟨(h.mem d h1 h2).1.below hb, (h.mem d h1 h2).2⟩, h.apart, h.gr, h.xr⟩
theorem Ks.next (h : Ks w R G X C vb v k vs Lk c V Lm) : Ks w R G X C vb v k vs Lk (c + 1) V Lm :=
  ⟨h.kbox, h.rws, h.vX, fun i u hi hu => ⟨(h.rX i u hi hu).1, fun d h1 h2 => (h.rX i u hi hu).2 d (by omega) h2⟩, h.gbox, fun d h1 h2 => h.mem d (by omega) h2, fun d d' h1 h2 h3 h4 => h.apart d d' (by omega) h2 (by omega) h4, h.gr, h.xr⟩
/-- What a row must be to join the kernel. -/
structure Kr (w : World) (R X C : Nat) (v u : Value) (l : List Int) (c : Nat) (V : Nat → Value) : Prop where
  row : Row w R u l
  x : u.ownBlock ≠ some X
  v : u.ownBlock = none ∨ u.ownBlock ≠ v.ownBlock
  m : ∀ d, c ≤ d → d < C → u.ownBlock = none ∨ u.ownBlock ≠ (V d).ownBlock
theorem Kr.below {u : Value} {l : List Int} (h : Kr w R X C v u l c V) (hb : Below w.heap.size w w') : Kr w' R X C v u l c V := ⟨h.row.below hb, h.x, h.v, h.m⟩
/-- The members of c get one more. -/
theorem Ks.grow (h : Ks w R G X C vb v k vs Lk c V Lm) (hc : c < C) {g cap n : Nat} {l : List Int} (hr : Row w' R (.slice (some ⟨g, 0, none⟩) n cap) l) (hg : w.grownBy w' (V c).ownBlock) (hat : some g = (V c).ownBlock ∨ g = w.heap.size) :
    Ks w' R G X C vb v k vs Lk (c + 1) V Lm ∧ Kr w' R X C v (.slice (some ⟨g, 0, none⟩) n cap) l (c + 1) V := by
  obtain ⟨hm1, hm2, hm3⟩ := h.mem c (Nat.le_refl _) hc
  have hG : some G ≠ (V c).ownBlock := fun e => by have := (own_lt hm1 e.symm).1; have := h.gr; omega
  have hsz := fun (j : Nat) (e : (V c).ownBlock = some j) => (own_lt hm1 e)
  have hob : (Value.slice (some ⟨g, 0, none⟩) n cap).ownBlock = some g := rfl
  constructor
  · refine ⟨(hg.block X h.kbox.lt (Ne.symm hm2)).trans h.kbox, rws_kept h.rws fun j hR hl hj => hg.block j hl (fun e => ?_), h.vX, h.next.rX, (hg.block G h.gbox.lt hG).trans h.gbox, fun d h1 h2 => ⟨own_kept (h.mem d (by omega) h2).1 fun j hj hl => hg.block j hl (fun e => ?_), (h.mem d (by omega) h2).2⟩, h.next.apart, h.gr, h.xr⟩
    · rcases hj with hj | ⟨i, u, hi, hu, hj⟩
      · rcases hm3 with e3 | e3
        · rw [e3] at e; cases e
        · exact e3 (e.symm.trans hj.symm)
      · rcases (h.rX i u hi hu).2 c (Nat.le_refl _) hc with e3 | e3
        · rw [e3] at hj; cases hj
        · exact e3 (hj.trans e)
    · rcases h.apart d c (by omega) h2 (Nat.le_refl _) hc (by omega) with e3 | e3
      · rw [e3] at hj; cases hj
      · exact e3 (hj.trans e)
  · refine ⟨hr, fun e => ?_, ?_, fun d h1 h2 => ?_⟩
    · rw [hob] at e
      rcases hat with e1 | e1
      · exact hm2 (e1.symm.trans e)
      · have := Option.some.inj e; have := h.kbox.lt; omega
    · right
      rw [hob]
      intro e
      rcases hat with e1 | e1
      · rcases hm3 with e3 | e3
        · rw [e3] at e1; cases e1
        · exact e3 (e1.symm.trans e)
      · have := (own_lt h.rws.own e.symm).2; omega
    · right
      rw [hob]
      intro e
      rcases hat with e1 | e1
      · rcases h.apart d c (by omega) h2 (Nat.le_refl _) hc (by omega) with e3 | e3
        · rw [e3] at e; cases e
        · exact e3 (e.symm.trans e1)
      · have := (own_lt (h.mem d (by omega) h2).1 e.symm).2; omega
/-- The row joins the kernel. -/
theorem Ks.push (h : Ks w R G X C vb v k vs Lk c V Lm) {u : Value} (hu : Kr w R X C v u (Lk k) c V) {g cap : Nat} (ho : w'.ownsRow R 25 1 (.slice (some ⟨g, 0, none⟩) (k + 1) cap) (k + 1) (vs ++ [u])) (hg : w.grownBy w' v.ownBlock) (hat : v.ownBlock = some g ∨ g = w.heap.size) : Ks w' R G X C vb (.slice (some ⟨g, 0, none⟩) (k + 1) cap) (k + 1) (vs ++ [u]) Lk c V Lm := by
  have hob : (Value.slice (some ⟨g, 0, none⟩) (k + 1) cap).ownBlock = some g := rfl
  have hG : some G ≠ v.ownBlock := fun e => by have := (own_lt h.rws.own e.symm).1; have := h.gr; omega
  have hlen : vs.length = k := by have := h.rws.own.1; omega
  have hkeep : ∀ {x : Value} {l : List Int}, Row w R x l → (x.ownBlock = none ∨ x.ownBlock ≠ v.ownBlock) → Row w' R x l ∧ (x.ownBlock = none ∨ x.ownBlock ≠ some g) := fun {x l} hx hv => by
    refine ⟨own_kept hx fun j hj hl => hg.block j hl (fun e => ?_), ?_⟩
    · rcases hv with e3 | e3
      · rw [e3] at hj; cases hj
      · exact e3 (hj.trans e)
    · rcases hv with e3 | e3
      · exact .inl e3
      · right
        intro e
        rcases hat with e1 | e1
        · exact e3 (e.trans e1.symm)
        · have := (own_lt hx e).2; omega
  refine ⟨(hg.block X h.kbox.lt (Ne.symm h.vX)).trans h.kbox, ⟨ho, fun i hi => ?_⟩, fun e => ?_, fun i x hi hx => ?_, (hg.block G h.gbox.lt hG).trans h.gbox, fun d h1 h2 => ?_, h.apart, h.gr, h.xr⟩
  · by_cases e : i = k
    · subst e
      exact ⟨u, by rw [List.getElem?_append_right (by omega), hlen, Nat.sub_self]; rfl, hkeep hu.row hu.v⟩
    · obtain ⟨x, h1, h2, h3⟩ := h.rws.rows i (by omega)
      exact ⟨x, by rw [List.getElem?_append_left (by omega)]; exact h1, hkeep h2 h3⟩
  · rw [hob] at e
    have e2 := Option.some.inj e
    rcases hat with e1 | e1
    · exact h.vX (e1.trans e)
    · have := h.kbox.lt; omega
  · by_cases e : i = k
    · rw [e, List.getElem?_append_right (by omega), hlen, Nat.sub_self] at hx
      have : u = x := by simpa using hx
      subst this
      exact ⟨hu.x, hu.m⟩
    · rw [List.getElem?_append_left (by omega)] at hx
      exact h.rX i x (by omega) hx
  · obtain ⟨m1, m2, m3⟩ := h.mem d h1 h2
    obtain ⟨k1, k2⟩ := hkeep m1 m3
    exact ⟨k1, m2, k2⟩
theorem Ks.store (h : Ks w R G X C vb v k vs Lk c V Lm) : Ks (w.setCell ⟨X, 1, none⟩ v) R G X C v v k vs Lk c V Lm := by
  have hk : ∀ j, j ≠ X → (w.setCell ⟨X, 1, none⟩ v).heap[j]? = w.heap[j]? := fun j hj => Below.heap_setCell w ⟨X, 1, none⟩ v j hj
  refine ⟨h.kbox.set 1 v, rws_kept h.rws fun j hR hl hj => hk j (fun e => ?_), h.vX, h.rX, (hk G (by have := h.gr; have := h.xr; omega)).trans h.gbox, fun d h1 h2 => ⟨own_kept (h.mem d h1 h2).1 fun j hj hl => hk j (fun e => (h.mem d h1 h2).2.1 (by rw [hj, e])), (h.mem d h1 h2).2⟩, h.apart, h.gr, h.xr⟩
  rcases hj with hj | ⟨i, u, hi, hu, hj⟩
  · exact h.vX (by rw [hj, e])
  · exact (h.rX i u hi hu).1 (by rw [hj, e])
theorem Cls.ks (h : Cls w R G C V Lm) (hX : Box w X #[.int .i64 (C : Int), .slice none 0 0] 24) (hXn : ∀ d, d < C → (V d).ownBlock ≠ some X) (hR : R ≤ X) (Lk : Nat → List Int) : Ks w R G X C (.slice none 0 0) (.slice none 0 0) 0 [] Lk 0 V Lm :=
  ⟨hX, Rws.nil _ _ _, by simp [Value.ownBlock], fun i u hi => absurd hi (Nat.not_lt_zero _), h.box, fun d _ h2 => ⟨h.rows d h2, hXn d h2, by
    rcases (h.rows d h2).cases with ⟨e, _⟩ | ⟨g, cap, e, _⟩
    · left; rw [e]; rfl
    · right; rw [e]; simp [Value.ownBlock]⟩, fun d d' _ h2 _ h4 hne => h.apart d d' h2 h4 hne, h.lt, hR⟩
end
/-- A row of the call's own is appended to a row of rows, at a step of a region that draws; which block has grown. -/
theorem step_app2 {ops : Array Oper} {o : Oper} {a : Act} {Kx : Act → World → Prop} {Q : Exit → Act → World → Prop} {E : Prop} (w : World) (hgd : o.guard = none) (s x : Operand)
    (ho : o.op = .call { callee := .builtin .append, args := #[s, x], argTypes := #[22, 22] })
    (R : Nat) (v : Value) (k : Nat) (vs : List Value) (L : Nat → List Int) (u : Value) (b : Nat) (hs : a.eval s = v) (h : Rws w R v k vs L) {l : List Int} (hu : Row w R u l)
    (hx : a.eval x = .slice (some ⟨b, 0, none⟩) 1 1) (hc : w.cell? ⟨b, 0, none⟩ = some u) (hk : k ≤ 1000000) (hR : R ≤ w.heap.size)
    (hn : ∀ g cap w', w'.ownsRow R 25 1 (.slice (some ⟨g, 0, none⟩) (k + 1) cap) (k + 1) (vs ++ [u]) → w.grownBy w' v.ownBlock → (v.ownBlock = some g ∨ g = w.heap.size) → Kx (a.put o.dst (.slice (some ⟨g, 0, none⟩) (k + 1) cap)) w') :
    if Region.wanted o (yielded ops a.tmps) = true then Oper.wp Tryd.prog o a w Kx Q else E := by
  obtain ⟨i0, hi, hz0, hz1, hz2⟩ := info_parts infoL
  refine step_append_lies w hgd s x 22 ho R 25 i0 (.slice none 0 0) 1 24 Tryd.underlying22 hi hz0 hz1 hz2 rfl (by decide) v k vs hs h.own ⟨b, 0, none⟩ 1 1 [u] hx rfl ?_ ?_ (by decide) (by unfold maxLen; omega) (by omega) hR _ rfl ?_
  · intro j y hy
    match j, hy with
    | 0, hy => simp at hy; subst hy; exact hc
    | j + 1, hy => simp at hy
  · intro y hy; simp at hy; rw [hy]; exact hu.one
  · intro g cap w' hown hgrow hat hlt
    exact hn g cap w' hown hgrow hat

end Go.Proofs.YtbefkngeffpokaaDoor
