/- Words for rows of integers that a call makes its own. -/
import Derived.Test.YtokjdlljhloflaaPtG
import Derived.WalkKit
import Derived.WalkSpells
import Derived.WalkLawsBesides
import Derived.Handy
import Derived.Deep.QuietTactic
import Derived.BigQuiet
import Derived.Outline
import Derived.Laws.BitsAllLaws
import Derived.IntWalk
import Derived.Lib.SmallJoins
import Derived.Lib.Hide
import Derived.Deep.DeepCutAuto
import Derived.LoopTactic
import Derived.Deep.RegionWith
import Derived.Test.YtokjdlljhloflaaPtP
import Derived.OwnWalk
namespace Go.Proofs.Ytokjdlljhloflaa
set_option linter.unusedVariables false
set_option linter.unusedSimpArgs false
open Go.RowKit Part

def lsv (l : List Int) : List Value := l.map (Value.int .i64)
/-- v is a row of the call's own, from block R on, with these integers. -/
def Row (w : World) (R : Nat) (v : Value) (l : List Int) : Prop := w.ownsRow R 3 1 v l.length (lsv l)
theorem Row.nil (w : World) (R : Nat) : Row w R (.slice none 0 0) [] := World.ownsRow_nil _ _ _ _
theorem Row.cases {w : World} {R : Nat} {v : Value} {l : List Int} (h : Row w R v l) : (v = .slice none 0 0 ∧ l = []) ∨ ∃ g cap, v = .slice (some ⟨g, 0, none⟩) l.length cap ∧ R ≤ g ∧ g < w.heap.size ∧ ∀ i, (hi : i < l.length) → w.cell? ⟨g, i, none⟩ = some (.int .i64 l[i]) := by
  rcases h.2 with ⟨h0, h1⟩ | ⟨g, cap, cur, h0, hHL, hLc, hcl, hcm, hcs, htk⟩
  · exact .inl ⟨h0, List.eq_nil_of_length_eq_zero h1⟩
  · refine .inr ⟨g, cap, h0, hHL, (Array.getElem?_eq_some_iff.1 hLc).1, fun i hi => ?_⟩
    have e : (lsv l)[i]? = some (.int .i64 l[i]) := by unfold lsv; rw [List.getElem?_map, List.getElem?_eq_getElem hi]; rfl
    rw [Joins.cell_of_block hLc, ← e, ← htk, List.getElem?_take, if_pos (by omega), Array.getElem?_toList]
theorem Row.shape {w : World} {R : Nat} {v : Value} {l : List Int} (h : Row w R v l) : ∃ o cap, v = .slice o l.length cap ∧ Lz w o l.length (fun i => l.getD i 0) := by
  rcases h.cases with ⟨rfl, rfl⟩ | ⟨g, cap, rfl, _, hg, hc⟩
  · exact ⟨none, 0, rfl, Lz.nil⟩
  · refine ⟨_, cap, rfl, fun hn => ⟨g, 0, rfl, hg, fun i hi => ?_⟩⟩
    rw [Nat.zero_add, hc i hi]
    show _ = some (Value.int .i64 (l.getD i 0))
    rw [List.getD_eq_getElem?_getD, List.getElem?_eq_getElem hi]
    rfl
theorem Row.keep {w w' : World} {R : Nat} {v : Value} {l : List Int} (h : Row w R v l) (hk : ∀ k, R ≤ k → k < w.heap.size → w'.heap[k]? = w.heap[k]?) : Row w' R v l := by
  refine ⟨h.1, ?_⟩
  rcases h.2 with h0 | ⟨g, cap, cur, h1, h2, h3, h4⟩
  · exact .inl h0
  · exact .inr ⟨g, cap, cur, h1, h2, (hk g h2 (Array.getElem?_eq_some_iff.1 h3).1).trans h3, h4⟩
theorem Row.below {w w' : World} {R : Nat} {v : Value} {l : List Int} (h : Row w R v l) (hb : Below w.heap.size w w') : Row w' R v l := h.keep fun k _ hk => hb.block k hk
theorem Row.alloc {w : World} {R : Nat} {v : Value} {l : List Int} (h : Row w R v l) (o : Obj) : Row (w.alloc o) R v l := h.below ((Below.refl _ _).alloc (Nat.le_refl _) o)
theorem Row.drew {w : World} {R : Nat} {v : Value} {l : List Int} (h : Row w R v l) : Row w.drew R v l := h
theorem Row.set {w : World} {R : Nat} {v : Value} {l : List Int} (h : Row w R v l) {b i : Nat} (hb : b < R) (x : Value) : Row (w.setCell ⟨b, i, none⟩ x) R v l :=
  h.keep fun k h1 h2 => Below.heap_setCell _ _ _ _ (by simp; omega)

/-- append of one integer to a row of the call's own. -/
theorem app_int {ops : Array Oper} {rest : List Oper} {o : Oper} {a : Act} {Q : Exit → Act → World → Prop} (w : World) (hgd : o.guard = none) (s x : Operand)
    (ho : o.op = .call { callee := .builtin .append, args := #[s, x], argTypes := #[22, 22] })
    (R : Nat) (v : Value) (l : List Int) (hs : a.eval s = v) (hrow : Row w R v l) (b : Nat) (z : Int) (hx : a.eval x = .slice (some ⟨b, 0, none⟩) 1 1) (hc : w.cell? ⟨b, 0, none⟩ = some (.int .i64 z)) (hl : l.length ≤ 1000000) (hR : R ≤ w.heap.size)
    (h : ∀ (g cap : Nat) w', Row w' R (.slice (some ⟨g, 0, none⟩) (l.length + 1) cap) (l ++ [z]) → Below R w w' → R ≤ g → wpList Try.prog ops Q rest (a.put o.dst (.slice (some ⟨g, 0, none⟩) (l.length + 1) cap)) w') :
    wpList Try.prog ops Q (o :: rest) a w := by
  obtain ⟨i0, hi, hz0, hz1, hz2⟩ := info_parts infoI
  refine wpList_append_own _ hgd s x 22 ho R 3 i0 (.int .i64 0) 1 8 Try.underlying22 hi hz0 hz1 hz2 rfl (by decide) v l.length (lsv l) hs hrow ⟨b, 0, none⟩ 1 1 [.int .i64 z] hx rfl ?_ ?_ ?_ ?_ hR ?_
  · intro j u hu
    match j, hu with
    | 0, hu =>
      simp at hu
      subst hu
      exact hc
    | j + 1, hu => simp at hu
  · intro u hu; simp at hu; rw [hu]; rfl
  · unfold maxLen; omega
  · omega
  · intro v' w' hown hgrow _
    have hr : Row w' R v' (l ++ [z]) := by
      have e : lsv l ++ [.int .i64 z] = lsv (l ++ [z]) := by simp [lsv]
      unfold Row
      rw [List.length_append, List.length_singleton, ← e]
      exact hown
    have hb : Below R w w' := (Below.refl _ _).grown hgrow hR (fun k hk => (hrow.lt k hk).1)
    rcases hr.cases with ⟨_, h1⟩ | ⟨g, cap, h1, h2, _, _⟩
    · simp at h1
    · rw [List.length_append, List.length_singleton] at h1
      subst h1
      exact h g cap w' hr hb h2
end Go.Proofs.Ytokjdlljhloflaa
