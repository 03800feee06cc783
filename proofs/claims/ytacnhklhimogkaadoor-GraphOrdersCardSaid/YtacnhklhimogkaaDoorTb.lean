/- Blocks of memory that hold graphs: what a store of a whole graph leaves. -/
import Derived.Test.YtacnhklhimogkaaDoorT
import Derived.WalkKit
import Derived.Lib.SmallJoins
import Derived.Lib.Hide
namespace Go.Proofs.YtacnhklhimogkaaDoor
set_option linter.unusedVariables false
set_option linter.unusedSimpArgs false
open Go.RowKit

/-- The block b holds these cells, none of them frozen. -/
def Box (w : World) (b : Nat) (c : Array Value) (t : TypeId) : Prop := w.heap[b]? = some (.cells c t (0, 0))

theorem Box.lt {w : World} {b : Nat} {c : Array Value} {t : TypeId} (h : Box w b c t) : b < w.heap.size := (Array.getElem?_eq_some_iff.1 h).1
theorem Box.cell {w : World} {b : Nat} {c : Array Value} {t : TypeId} (h : Box w b c t) (i : Nat) : w.cell? ⟨b, i, none⟩ = c[i]? := Joins.cell_of_block h i
theorem Box.open_ {w : World} {b : Nat} {c : Array Value} {t : TypeId} (h : Box w b c t) (i : Nat) : w.frozen? ⟨b, i, none⟩ = false := Joins.unfrozen_of_block h i
theorem Box.below {w W : World} {b B : Nat} {c : Array Value} {t : TypeId} (h : Box w b c t) (hb : Below B w W) (hB : b < B) : Box W b c t := (hb.block b hB).trans h
theorem Box.new (w : World) (c : Array Value) (t : TypeId) : Box (w.alloc (.cells c t)) w.heap.size c t := by
  show (w.heap.push _)[w.heap.size]? = _
  simp
theorem Box.alloc {w : World} {b : Nat} {c : Array Value} {t : TypeId} (h : Box w b c t) (o : Obj) : Box (w.alloc o) b c t := by
  show (w.heap.push _)[b]? = _
  rw [Array.getElem?_push, if_neg (by have := h.lt; omega)]
  exact h
theorem Box.drew {w : World} {b : Nat} {c : Array Value} {t : TypeId} (h : Box w b c t) : Box w.drew b c t := h
theorem Box.setOther {w : World} {b : Nat} {c : Array Value} {t : TypeId} (h : Box w b c t) {d i : Nat} (hd : b ≠ d) (v : Value) : Box (w.setCell ⟨d, i, none⟩ v) b c t :=
  (Below.heap_setCell w ⟨d, i, none⟩ v b hd).trans h
theorem Box.set {w : World} {b : Nat} {c : Array Value} {t : TypeId} (h : Box w b c t) (i : Nat) (v : Value) : Box (w.setCell ⟨b, i, none⟩ v) b (c.setIfInBounds i v) t :=
  Joins.block_setCell (i := i) h v

abbrev put6 (w : World) (b : Nat) (v0 v1 v2 v3 v4 v5 : Value) : World :=
  (((((w.setCell ⟨b, 0, none⟩ v0).setCell ⟨b, 1, none⟩ v1).setCell ⟨b, 2, none⟩ v2).setCell ⟨b, 3, none⟩ v3).setCell ⟨b, 4, none⟩ v4).setCell ⟨b, 5, none⟩ v5
theorem Box.put6 {w : World} {b : Nat} {c0 c1 c2 c3 c4 c5 : Value} {t : TypeId} (h : Box w b #[c0, c1, c2, c3, c4, c5] t) (v0 v1 v2 v3 v4 v5 : Value) : Box (put6 w b v0 v1 v2 v3 v4 v5) b #[v0, v1, v2, v3, v4, v5] t := by
  have := (((((h.set 0 v0).set 1 v1).set 2 v2).set 3 v3).set 4 v4).set 5 v5
  simpa using this
theorem Box.put6Other {w : World} {b d : Nat} {c : Array Value} {t : TypeId} (h : Box w b c t) (hd : b ≠ d) (v0 v1 v2 v3 v4 v5 : Value) : Box (Go.Proofs.YtacnhklhimogkaaDoor.put6 w d v0 v1 v2 v3 v4 v5) b c t :=
  (((((h.setOther hd v0).setOther hd v1).setOther hd v2).setOther hd v3).setOther hd v4).setOther hd v5
theorem size_put6 (w : World) (b : Nat) (v0 v1 v2 v3 v4 v5 : Value) : (put6 w b v0 v1 v2 v3 v4 v5).heap.size = w.heap.size := by simp [put6]
theorem below_put6 {B : Nat} {w W : World} (h : Below B w W) {b : Nat} (hb : B ≤ b) (v0 v1 v2 v3 v4 v5 : Value) : Below B w (put6 W b v0 v1 v2 v3 v4 v5) :=
  (((((h.setCell (p := ⟨b, 0, none⟩) hb v0).setCell (p := ⟨b, 1, none⟩) hb v1).setCell (p := ⟨b, 2, none⟩) hb v2).setCell (p := ⟨b, 3, none⟩) hb v3).setCell (p := ⟨b, 4, none⟩) hb v4).setCell (p := ⟨b, 5, none⟩) hb v5

/-- What a walk takes of a block of six cells. -/
theorem Box.six {w : World} {b : Nat} {c0 c1 c2 c3 c4 c5 : Value} {t : TypeId} (h : Box w b #[c0, c1, c2, c3, c4, c5] t) :
    (w.cell? ⟨b, 0, none⟩ = some c0 ∧ w.cell? ⟨b, 1, none⟩ = some c1 ∧ w.cell? ⟨b, 2, none⟩ = some c2 ∧ w.cell? ⟨b, 3, none⟩ = some c3 ∧ w.cell? ⟨b, 4, none⟩ = some c4 ∧ w.cell? ⟨b, 5, none⟩ = some c5) ∧
    w.frozen? ⟨b, 0, none⟩ = false ∧ w.frozen? ⟨b, 1, none⟩ = false ∧ w.frozen? ⟨b, 2, none⟩ = false ∧ w.frozen? ⟨b, 3, none⟩ = false ∧ w.frozen? ⟨b, 4, none⟩ = false ∧ w.frozen? ⟨b, 5, none⟩ = false :=
  ⟨⟨h.cell 0, h.cell 1, h.cell 2, h.cell 3, h.cell 4, h.cell 5⟩, h.open_ 0, h.open_ 1, h.open_ 2, h.open_ 3, h.open_ 4, h.open_ 5⟩
end Go.Proofs.YtacnhklhimogkaaDoor
