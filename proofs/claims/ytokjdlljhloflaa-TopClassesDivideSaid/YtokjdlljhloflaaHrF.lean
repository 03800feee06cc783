/- graph.Inside on well-formed graphs of the same number of processes. -/
import Derived.Test.YtokjdlljhloflaaHrB
import Derived.Test.YtokjdlljhloflaaHrA
import Derived.Test.YtokjdlljhloflaaHrC
import Derived.Test.YtokjdlljhloflaaHrD
import Derived.Test.YtokjdlljhloflaaHrE
import Derived.Deep.RegionWith
import Derived.Test.YtokjdlljhloflaaHrM
import Derived.WalkKit
import Derived.WalkSpells
import Derived.WalkLawsBesides
import Derived.Handy
import Derived.Deep.QuietTactic
import Derived.BigQuiet
import Derived.Outline
import Derived.Laws.BitsAllLaws
import Derived.IntWalk
import Derived.Lib.SmallJoins
import Derived.Lib.Hide
namespace Go.Proofs.Ytokjdlljhloflaa.Gra
open Go.RowKit



theorem box_cell1' (w : World) (A B : Array Value) (t1 t2 : TypeId) (i : Nat) : ((w.alloc (.cells A t1)).alloc (.cells B t2)).cell? ⟨w.heap.size, i, none⟩ = A[i]? := by
  rw [World.cell?_alloc_lt _ _ _ (by simp)]
  exact World.cell?_alloc_mark w A t1 (0, 0) i
theorem box_cell2' (w : World) (A B : Array Value) (t1 t2 : TypeId) (i : Nat) : ((w.alloc (.cells A t1)).alloc (.cells B t2)).cell? ⟨w.heap.size + 1, i, none⟩ = B[i]? :=
  Joins.cell_alloc_mark_at _ B t2 (0, 0) _ i (by simp)

end Go.Proofs.Ytokjdlljhloflaa.Gra
