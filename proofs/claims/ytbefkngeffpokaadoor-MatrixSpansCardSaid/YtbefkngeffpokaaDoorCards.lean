/-
  DERIVED. GIVEN WITH THE SEED: THE CARDS: each row of YtbefkngeffpokaaDoorRows.lean that lists a variable, with what it lists TIED to the program's text (the seventh form; the later family's looks); each row that meets fmt, with fmt's text TOLD by the authors' own Lean function (tested against real Go, not proved from fmt's source: count such statements apart). THE CARD IS WHAT COUNTS. Prove the row's statement (the work); the ties are given (YtbefkngeffpokaaDoorTie.lean); close each card by the builder's one call (the guide's Derived/Test/ToyasCard.lean, 'card_holds'). Laid BY PROGRAM, IN A SANDBOX (cutbox-door.mjs). By AI agents, Wed Nov 11 2026. No macro, syntax, notation, axiom, sorry.
-/
import Derived.Test.YtbefkngeffpokaaDoorRows
import GoSem.ClaimSeven
namespace Go.Proofs.YtbefkngeffpokaaDoor
namespace Rows

/-- THE TIED CARD OF 'roundtablelaw05.MatrixMakes'. -/
def matrixMakesCard : Claim7 := { stood := { row := matrixMakesRow, standIns := [], harness := (true, "b04c63acd340bbcb62704d4ad1080ba4dba1a317f3755b5d3613c9363f401073"), looks := false }, kinds := [], alts := [], laidByText := true, laidKinds := [.data], laidTests := true, laidLooks := .later }
def MatrixMakesCardSaid : Prop := Claim7.holds Tryd.pinned (.plain (OpenSpec.ofChange matrixMakesSpec)) matrixMakesCard

/-- THE TIED CARD OF 'roundtablelaw05.MatrixCombines'. -/
def matrixCombinesCard : Claim7 := { stood := { row := matrixCombinesRow, standIns := [], harness := (true, "b04c63acd340bbcb62704d4ad1080ba4dba1a317f3755b5d3613c9363f401073"), looks := false }, kinds := [], alts := [], laidByText := true, laidKinds := [.data], laidTests := true, laidLooks := .later }
def MatrixCombinesCardSaid : Prop := Claim7.holds Tryd.pinned (.plain (OpenSpec.ofChange matrixCombinesSpec)) matrixCombinesCard

/-- THE TIED CARD OF 'roundtablelaw05.MatrixReduces'. -/
def matrixReducesCard : Claim7 := { stood := { row := matrixReducesRow, standIns := [], harness := (true, "b04c63acd340bbcb62704d4ad1080ba4dba1a317f3755b5d3613c9363f401073"), looks := false }, kinds := [], alts := [], laidByText := true, laidKinds := [.data], laidTests := true, laidLooks := .later }
def MatrixReducesCardSaid : Prop := Claim7.holds Tryd.pinned (.plain (OpenSpec.ofChange matrixReducesSpec)) matrixReducesCard

/-- THE TIED CARD OF 'roundtablelaw05.MatrixSolves'. -/
def matrixSolvesCard : Claim7 := { stood := { row := matrixSolvesRow, standIns := [], harness := (true, "b04c63acd340bbcb62704d4ad1080ba4dba1a317f3755b5d3613c9363f401073"), looks := false }, kinds := [], alts := [], laidByText := true, laidKinds := [.data], laidTests := true, laidLooks := .later }
def MatrixSolvesCardSaid : Prop := Claim7.holds Tryd.pinned (.plain (OpenSpec.ofChange matrixSolvesSpec)) matrixSolvesCard

/-- THE TIED CARD OF 'roundtablelaw05.MatrixVerifies'. -/
def matrixVerifiesCard : Claim7 := { stood := { row := matrixVerifiesRow, standIns := [], harness := (true, "b04c63acd340bbcb62704d4ad1080ba4dba1a317f3755b5d3613c9363f401073"), looks := false }, kinds := [], alts := [], laidByText := true, laidKinds := [.data], laidTests := true, laidLooks := .later }
def MatrixVerifiesCardSaid : Prop := Claim7.holds Tryd.pinned (.plain (OpenSpec.ofChange matrixVerifiesSpec)) matrixVerifiesCard

/-- THE TIED CARD OF 'roundtablelaw05.MatrixRing'. -/
def matrixRingCard : Claim7 := { stood := { row := matrixRingRow, standIns := [], harness := (true, "b04c63acd340bbcb62704d4ad1080ba4dba1a317f3755b5d3613c9363f401073"), looks := false }, kinds := [], alts := [], laidByText := true, laidKinds := [.data], laidTests := true, laidLooks := .later }
def MatrixRingCardSaid : Prop := Claim7.holds Tryd.pinned (.plain (OpenSpec.ofChange matrixRingSpec)) matrixRingCard

/-- THE TIED CARD OF 'roundtablelaw05.MatrixRanks'. -/
def matrixRanksCard : Claim7 := { stood := { row := matrixRanksRow, standIns := [], harness := (true, "b04c63acd340bbcb62704d4ad1080ba4dba1a317f3755b5d3613c9363f401073"), looks := false }, kinds := [], alts := [], laidByText := true, laidKinds := [.data], laidTests := true, laidLooks := .later }
def MatrixRanksCardSaid : Prop := Claim7.holds Tryd.pinned (.plain (OpenSpec.ofChange matrixRanksSpec)) matrixRanksCard

/-- THE TIED CARD OF 'roundtablelaw05.MatrixDecides'. -/
def matrixDecidesCard : Claim7 := { stood := { row := matrixDecidesRow, standIns := [], harness := (true, "b04c63acd340bbcb62704d4ad1080ba4dba1a317f3755b5d3613c9363f401073"), looks := false }, kinds := [], alts := [], laidByText := true, laidKinds := [.data], laidTests := true, laidLooks := .later }
def MatrixDecidesCardSaid : Prop := Claim7.holds Tryd.pinned (.plain (OpenSpec.ofChange matrixDecidesSpec)) matrixDecidesCard

/-- THE TIED CARD OF 'roundtablelaw05.MatrixSpans'. -/
def matrixSpansCard : Claim7 := { stood := { row := matrixSpansRow, standIns := [], harness := (true, "b04c63acd340bbcb62704d4ad1080ba4dba1a317f3755b5d3613c9363f401073"), looks := false }, kinds := [], alts := [], laidByText := true, laidKinds := [.data], laidTests := true, laidLooks := .later }
def MatrixSpansCardSaid : Prop := Claim7.holds Tryd.pinned (.plain (OpenSpec.ofChange matrixSpansSpec)) matrixSpansCard

/-- THE SECOND FORM's CARD OF 'roundtablelaw05.MatrixMakes'. -/
def matrixMakesUptoCard : Claim7 := { stood := { row := matrixMakesUptoRow, standIns := [], harness := (true, "b04c63acd340bbcb62704d4ad1080ba4dba1a317f3755b5d3613c9363f401073"), looks := false }, kinds := [], alts := [], laidByText := true, laidKinds := [.data], laidTests := true, laidLooks := .later }
def MatrixMakesUptoCardSaid : Prop := Claim7.holds Tryd.pinned (.plain (OpenSpec.upto matrixMakesSpec)) matrixMakesUptoCard

/-- THE SECOND FORM's CARD OF 'roundtablelaw05.MatrixCombines'. -/
def matrixCombinesUptoCard : Claim7 := { stood := { row := matrixCombinesUptoRow, standIns := [], harness := (true, "b04c63acd340bbcb62704d4ad1080ba4dba1a317f3755b5d3613c9363f401073"), looks := false }, kinds := [], alts := [], laidByText := true, laidKinds := [.data], laidTests := true, laidLooks := .later }
def MatrixCombinesUptoCardSaid : Prop := Claim7.holds Tryd.pinned (.plain (OpenSpec.upto matrixCombinesSpec)) matrixCombinesUptoCard

/-- THE SECOND FORM's CARD OF 'roundtablelaw05.MatrixReduces'. -/
def matrixReducesUptoCard : Claim7 := { stood := { row := matrixReducesUptoRow, standIns := [], harness := (true, "b04c63acd340bbcb62704d4ad1080ba4dba1a317f3755b5d3613c9363f401073"), looks := false }, kinds := [], alts := [], laidByText := true, laidKinds := [.data], laidTests := true, laidLooks := .later }
def MatrixReducesUptoCardSaid : Prop := Claim7.holds Tryd.pinned (.plain (OpenSpec.upto matrixReducesSpec)) matrixReducesUptoCard

/-- THE SECOND FORM's CARD OF 'roundtablelaw05.MatrixSolves'. -/
def matrixSolvesUptoCard : Claim7 := { stood := { row := matrixSolvesUptoRow, standIns := [], harness := (true, "b04c63acd340bbcb62704d4ad1080ba4dba1a317f3755b5d3613c9363f401073"), looks := false }, kinds := [], alts := [], laidByText := true, laidKinds := [.data], laidTests := true, laidLooks := .later }
def MatrixSolvesUptoCardSaid : Prop := Claim7.holds Tryd.pinned (.plain (OpenSpec.upto matrixSolvesSpec)) matrixSolvesUptoCard

/-- THE SECOND FORM's CARD OF 'roundtablelaw05.MatrixVerifies'. -/
def matrixVerifiesUptoCard : Claim7 := { stood := { row := matrixVerifiesUptoRow, standIns := [], harness := (true, "b04c63acd340bbcb62704d4ad1080ba4dba1a317f3755b5d3613c9363f401073"), looks := false }, kinds := [], alts := [], laidByText := true, laidKinds := [.data], laidTests := true, laidLooks := .later }
def MatrixVerifiesUptoCardSaid : Prop := Claim7.holds Tryd.pinned (.plain (OpenSpec.upto matrixVerifiesSpec)) matrixVerifiesUptoCard

/-- THE SECOND FORM's CARD OF 'roundtablelaw05.MatrixRing'. -/
def matrixRingUptoCard : Claim7 := { stood := { row := matrixRingUptoRow, standIns := [], harness := (true, "b04c63acd340bbcb62704d4ad1080ba4dba1a317f3755b5d3613c9363f401073"), looks := false }, kinds := [], alts := [], laidByText := true, laidKinds := [.data], laidTests := true, laidLooks := .later }
def MatrixRingUptoCardSaid : Prop := Claim7.holds Tryd.pinned (.plain (OpenSpec.upto matrixRingSpec)) matrixRingUptoCard

/-- THE SECOND FORM's CARD OF 'roundtablelaw05.MatrixRanks'. -/
def matrixRanksUptoCard : Claim7 := { stood := { row := matrixRanksUptoRow, standIns := [], harness := (true, "b04c63acd340bbcb62704d4ad1080ba4dba1a317f3755b5d3613c9363f401073"), looks := false }, kinds := [], alts := [], laidByText := true, laidKinds := [.data], laidTests := true, laidLooks := .later }
def MatrixRanksUptoCardSaid : Prop := Claim7.holds Tryd.pinned (.plain (OpenSpec.upto matrixRanksSpec)) matrixRanksUptoCard

/-- THE SECOND FORM's CARD OF 'roundtablelaw05.MatrixDecides'. -/
def matrixDecidesUptoCard : Claim7 := { stood := { row := matrixDecidesUptoRow, standIns := [], harness := (true, "b04c63acd340bbcb62704d4ad1080ba4dba1a317f3755b5d3613c9363f401073"), looks := false }, kinds := [], alts := [], laidByText := true, laidKinds := [.data], laidTests := true, laidLooks := .later }
def MatrixDecidesUptoCardSaid : Prop := Claim7.holds Tryd.pinned (.plain (OpenSpec.upto matrixDecidesSpec)) matrixDecidesUptoCard

/-- THE SECOND FORM's CARD OF 'roundtablelaw05.MatrixSpans'. -/
def matrixSpansUptoCard : Claim7 := { stood := { row := matrixSpansUptoRow, standIns := [], harness := (true, "b04c63acd340bbcb62704d4ad1080ba4dba1a317f3755b5d3613c9363f401073"), looks := false }, kinds := [], alts := [], laidByText := true, laidKinds := [.data], laidTests := true, laidLooks := .later }
def MatrixSpansUptoCardSaid : Prop := Claim7.holds Tryd.pinned (.plain (OpenSpec.upto matrixSpansSpec)) matrixSpansUptoCard
end Rows
end Go.Proofs.YtbefkngeffpokaaDoor
