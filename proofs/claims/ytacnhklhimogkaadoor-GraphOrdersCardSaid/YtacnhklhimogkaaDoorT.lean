/- Small facts on blocks of memory that hold graphs. -/
import Derived.Test.YtacnhklhimogkaaDoorGrB
import Derived.Test.YtacnhklhimogkaaDoorGrA
import Derived.Test.YtacnhklhimogkaaDoorGrD
import Derived.Test.YtacnhklhimogkaaDoorGrE
import Derived.Test.YtacnhklhimogkaaDoorGrC
import Derived.Test.YtacnhklhimogkaaDoorGrM
import Derived.WalkKit
import Derived.WalkSpells
import Derived.WalkLawsBesides
import Derived.Handy
import Derived.Deep.QuietTactic
import Derived.BigQuiet
import Derived.Outline
import Derived.Laws.BitsAllLaws
import Derived.IntWalk
import Derived.Lib.SmallJoins
import Derived.Lib.Hide
namespace Go.Proofs.YtacnhklhimogkaaDoor
set_option linter.unusedVariables false
set_option linter.unusedSimpArgs false
open Go.RowKit



theorem box_cell1' (w : World) (A B : Array Value) (t1 t2 : TypeId) (i : Nat) : ((w.alloc (.cells A t1)).alloc (.cells B t2)).cell? ⟨w.heap.size, i, none⟩ = A[i]? := by
  rw [World.cell?_alloc_lt _ _ _ (by simp)]
  exact World.cell?_alloc_mark w A t1 (0, 0) i
theorem box_cell2' (w : World) (A B : Array Value) (t1 t2 : TypeId) (i : Nat) : ((w.alloc (.cells A t1)).alloc (.cells B t2)).cell? ⟨w.heap.size + 1, i, none⟩ = B[i]? :=
  Joins.cell_alloc_mark_at _ B t2 (0, 0) _ i (by simp)

theorem fresh_cell {w w1 : World} {C : Array Value} {t : TypeId} (hb : Below (w.alloc (.cells C t)).heap.size (w.alloc (.cells C t)) w1) (i : Nat) : w1.cell? ⟨w.heap.size, i, none⟩ = C[i]? :=
  (hb.cell (p := ⟨w.heap.size, i, none⟩) (by simp)).trans (World.cell?_alloc_mark w C t (0, 0) i)

theorem fresh_below {w w1 : World} {o : Obj} (hb : Below (w.alloc o).heap.size (w.alloc o) w1) : Below w.heap.size w w1 :=
  ((Below.refl _ _).alloc (Nat.le_refl _) _).trans (Joins.below_le hb (by simp))

/-- A graph's block that lies there. -/
structure G6 (w : World) (g : Nat) (c : Array Value) : Prop where
  lt : g < w.heap.size
  cell : ∀ i, w.cell? ⟨g, i, none⟩ = c[i]?

theorem G6.new (w : World) (c : Array Value) (t : TypeId) : G6 (w.alloc (.cells c t)) w.heap.size c := ⟨by simp, fun i => World.cell?_alloc_mark w c t (0, 0) i⟩
theorem G6.below {w W : World} {g : Nat} {c : Array Value} (h : G6 w g c) (hb : Below w.heap.size w W) : G6 W g c :=
  ⟨Nat.lt_of_lt_of_le h.lt hb.size, fun i => (hb.cell (p := ⟨g, i, none⟩) h.lt).trans (h.cell i)⟩
theorem G6.alloc {w : World} {g : Nat} {c : Array Value} (h : G6 w g c) (o : Obj) : G6 (w.alloc o) g c := h.below ((Below.refl _ _).alloc (Nat.le_refl _) o)

theorem G6.at_ {w : World} {n : Nat} (hn : n = w.heap.size) (c : Array Value) (t : TypeId) : G6 (w.alloc (.cells c t)) n c := by
  subst hn; exact G6.new w c t

theorem undrew {B : Nat} {w w' : World} (h : Below B w.drew w') : Below B w w' := ⟨h.os, h.tape, h.output, h.size, h.block⟩

end Go.Proofs.YtacnhklhimogkaaDoor
