/-
  DERIVED. GIVEN WITH THE SEED: THE CARDS: each row of YtienbebbgioccabDoorRows.lean that lists a variable, with what it lists TIED to the program's text (the seventh form; the later family's looks); each row that meets fmt, with fmt's text TOLD by the authors' own Lean function (tested against real Go, not proved from fmt's source: count such statements apart). THE CARD IS WHAT COUNTS. Prove the row's statement (the work); the ties are given (YtienbebbgioccabDoorTie.lean); close each card by the builder's one call (the guide's Derived/Test/ToyasCard.lean, 'card_holds'). Laid BY PROGRAM, IN A SANDBOX (cutbox-door.mjs). By AI agents, Wed Nov 11 2026. No macro, syntax, notation, axiom, sorry.
-/
import Derived.Test.YtienbebbgioccabDoorRows
import GoSem.ClaimSeven
namespace Go.Proofs.YtienbebbgioccabDoor
namespace Rows

/-- THE TIED CARD OF 'roundtablelaw01.ProcsetMirrors'. -/
def procsetMirrorsCard : Claim7 := { stood := { row := procsetMirrorsRow, standIns := [], harness := (true, "22aa72b703b3263c147fb8767fac8e4be428da3c949356def1201f5387c8abfb"), looks := false }, kinds := [], alts := [], laidByText := true, laidKinds := [.data, .data, .data, .data, .pinned], laidTests := true, laidLooks := .later }
def ProcsetMirrorsCardSaid : Prop := Claim7.holds Tryd.pinned (.plain (OpenSpec.ofChange procsetMirrorsSpec)) procsetMirrorsCard

/-- THE SECOND FORM's CARD OF 'roundtablelaw01.ProcsetMirrors'. -/
def procsetMirrorsUptoCard : Claim7 := { stood := { row := procsetMirrorsUptoRow, standIns := [], harness := (true, "22aa72b703b3263c147fb8767fac8e4be428da3c949356def1201f5387c8abfb"), looks := false }, kinds := [], alts := [], laidByText := true, laidKinds := [.data, .data, .data, .data, .pinned], laidTests := true, laidLooks := .later }
def ProcsetMirrorsUptoCardSaid : Prop := Claim7.holds Tryd.pinned (.plain (OpenSpec.upto procsetMirrorsSpec)) procsetMirrorsUptoCard
end Rows
end Go.Proofs.YtienbebbgioccabDoor
