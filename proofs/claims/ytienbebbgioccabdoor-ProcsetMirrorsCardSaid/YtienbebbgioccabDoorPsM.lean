/- Opening a call of the laws: the table of math/bits, the integer variable, a list of integers. -/
import Derived.Test.YtienbebbgioccabDoorRows
import Derived.Test.YtienbebbgioccabDoorTie
import Derived.Test.YtienbebbgioccabDoorCards
import Derived.Test.YtienbebbgioccabDoorPmB
import Derived.WalkKit
import Derived.ProofKit
import Derived.OpenShut
import Derived.ShutString
import Derived.LaidMore
import Derived.Lay
import Derived.SevenTiedAt
import Derived.Stop.Joined
import Derived.ChangeOld
import Derived.ChangeMaps5
import Derived.Below
import Derived.Shelf.Vars
namespace Go.Proofs.YtienbebbgioccabDoor
set_option linter.unusedVariables false
set_option linter.unusedSimpArgs false
open Go.ChangeShapes Go.WideShapes Go.ChangeAt Go.RowKit

theorem own : ownKnob Tryd.prog.godebug = none := by kernel_rfl
theorem laidOut : laidOutB Tryd.prog = true := by kernel_rfl
abbrev tabs0 : List (String × DataW Unit) := Rows.procsetMirrorsRow.laid
set_option maxRecDepth 100000 in
theorem tab_of {W : World} (h : laidMetH Tryd.prog tabs0 W) : Tab W := by
  rw [MakeChecks.laidMetH_plain _ _ _ (by kernel_rfl)] at h
  obtain ⟨ps, ⟨_, _, _, _, _, _, _, _, _, _, ⟨g, t, cs, fuel, p, q, hg, ht, hv, hd, _, _⟩, _⟩, _, _⟩ := h
  obtain rfl := Option.some.inj ((show Tryd.prog.globalNamed "math/bits.deBruijn64tab" = some 1 by kernel_rfl).symm.trans hg)
  obtain rfl := Option.some.inj ((show (Tryd.prog.globals[1]?).map (·.type) = some 69 by kernel_rfl).symm.trans ht)
  have c5 : Tryd.prog.cellsOf 5 = 1 := by kernel_rfl
  obtain ⟨xs, m, _, ex, hlen, hl, hel⟩ := DataW.trod_array Tryd.underlying69 hd
  have hL := DataW.agg.inj (Prod.mk.inj ex).1
  have key : ∀ (i : Nat) (n : Int), i < 64 → (xs.map (·.1))[i]? = some (DataW.lit (.int .u8 n)) → W.cell? ⟨1, i, none⟩ = some (.int .u8 n) := by
    intro i n hi h1
    have hx := hel i hi
    rw [List.getElem?_map] at h1
    cases hxi : xs[i]? with
    | none => rw [hxi] at h1; simp at h1
    | some y =>
      rw [hxi] at hx h1
      obtain ⟨z, hz, hy, _⟩ := DataW.trod_int Tryd.underlying5 hx
      rw [c5] at hz
      subst hy
      simp at h1
      have hz2 := congrArg (·[0]?) hz
      simp [List.getElem?_take, List.getElem?_drop] at hz2
      rw [World.var?_cell hg hv i, hz2, h1]
  rw [← hL] at key
  have k0 := key 0 0 (by decide) (by kernel_rfl)
  refine ⟨?_, k0, key 1 1 (by decide) (by kernel_rfl), key 3 2 (by decide) (by kernel_rfl), key 7 3 (by decide) (by kernel_rfl), key 15 4 (by decide) (by kernel_rfl)⟩
  rcases Nat.lt_or_ge 1 W.heap.size with h | h
  · exact h
  · simp [World.cell?, Array.getElem?_eq_none h] at k0
theorem good_of {W : World} (h : laidMetH Tryd.prog tabs0 W) (hm : ∃ m, W.cell? ⟨3, 0, none⟩ = some (.int .i64 m)) : Good W := by
  refine ⟨tab_of h, ?_, hm⟩
  obtain ⟨m, hm⟩ := hm
  rcases Nat.lt_or_ge 3 W.heap.size with h | h
  · exact h
  · simp [World.cell?, Array.getElem?_eq_none h] at hm
end Go.Proofs.YtienbebbgioccabDoor
