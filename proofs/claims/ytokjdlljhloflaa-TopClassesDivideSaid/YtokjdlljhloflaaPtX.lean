/- The specification: Glue, Join. -/
import Derived.Test.YtokjdlljhloflaaPtV
import Derived.WalkKit
import Derived.WalkSpells
import Derived.WalkLawsBesides
import Derived.Handy
import Derived.Deep.QuietTactic
import Derived.BigQuiet
import Derived.Outline
import Derived.Laws.BitsAllLaws
import Derived.IntWalk
import Derived.Lib.SmallJoins
import Derived.Lib.Hide
import Derived.Deep.DeepCutAuto
import Derived.LoopTactic
import Derived.Deep.RegionWith
import Derived.Test.YtokjdlljhloflaaPtW
namespace Go.Proofs.Ytokjdlljhloflaa
set_option linter.unusedVariables false
set_option linter.unusedSimpArgs false
open Go.RowKit Part
theorem Box.drewN {w : World} {b : Nat} {c : Array Value} {t : TypeId} (h : Box w b c t) (n : Nat) : Box (w.drewN n) b c t := h
/-- The sum of the cells of a block. -/
def sumW (n b : Nat) (w : World) : Nat := sumq n fun i => match w.cell? ⟨b, i, none⟩ with | some v => (intOf v).toNat | none => 0
theorem sumW_box {n b : Nat} {w : World} {q : Nat → Nat} (h : Box w b (vec n (zf q)) 3) : sumW n b w = sumq n q := by
  unfold sumW sumq
  congr 1
  exact List.map_congr_left fun i hi => by
    rw [h.cell, vec_get _ (List.mem_range.1 hi)]
    simp [intOf, zf]
def gm (n b : Nat) (v : Value) (w : World) : Nat := 2 * sumW n b w + (match v with | .bool true => 1 | _ => 0)
def GRes (n : Nat) (a b : Nat → Nat) (w : World) (e : Ending) (w' : World) : Prop := ∃ m, IsJoin n a b m ∧ LRes n (zf m) w e w'

end Go.Proofs.Ytokjdlljhloflaa
