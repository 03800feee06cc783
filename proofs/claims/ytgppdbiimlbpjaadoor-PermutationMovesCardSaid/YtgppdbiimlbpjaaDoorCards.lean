/-
  DERIVED. GIVEN WITH THE SEED: THE CARDS: each row of YtgppdbiimlbpjaaDoorRows.lean that lists a variable, with what it lists TIED to the program's text (the seventh form; the later family's looks); each row that meets fmt, with fmt's text TOLD by the authors' own Lean function (tested against real Go, not proved from fmt's source: count such statements apart). THE CARD IS WHAT COUNTS. Prove the row's statement (the work); the ties are given (YtgppdbiimlbpjaaDoorTie.lean); close each card by the builder's one call (the guide's Derived/Test/ToyasCard.lean, 'card_holds'). Laid BY PROGRAM, IN A SANDBOX (cutbox-door.mjs). By AI agents, Wed Nov 11 2026. No macro, syntax, notation, axiom, sorry.
-/
import Derived.Test.YtgppdbiimlbpjaaDoorRows
import GoSem.ClaimSeven
namespace Go.Proofs.YtgppdbiimlbpjaaDoor
namespace Rows

/-- THE TIED CARD OF 'roundtablelaw02.PermutationChecks'. -/
def permutationChecksCard : Claim7 := { stood := { row := permutationChecksRow, standIns := [], harness := (true, "7918070f86f1839bb394f96700a4c7e4520095db62ccb73389b9d10fc04bc14d"), looks := false }, kinds := [], alts := [], laidByText := true, laidKinds := [.data, .data, .data], laidTests := true, laidLooks := .later }
def PermutationChecksCardSaid : Prop := Claim7.holds Tryd.pinned (.plain (OpenSpec.ofChange permutationChecksSpec)) permutationChecksCard

/-- THE TIED CARD OF 'roundtablelaw02.PermutationComposes'. -/
def permutationComposesCard : Claim7 := { stood := { row := permutationComposesRow, standIns := [], harness := (true, "7918070f86f1839bb394f96700a4c7e4520095db62ccb73389b9d10fc04bc14d"), looks := false }, kinds := [], alts := [], laidByText := true, laidKinds := [.data, .data, .data], laidTests := true, laidLooks := .later }
def PermutationComposesCardSaid : Prop := Claim7.holds Tryd.pinned (.plain (OpenSpec.ofChange permutationComposesSpec)) permutationComposesCard

/-- THE TIED CARD OF 'roundtablelaw02.PermutationActs'. -/
def permutationActsCard : Claim7 := { stood := { row := permutationActsRow, standIns := [], harness := (true, "7918070f86f1839bb394f96700a4c7e4520095db62ccb73389b9d10fc04bc14d"), looks := false }, kinds := [], alts := [], laidByText := true, laidKinds := [.data, .data, .data], laidTests := true, laidLooks := .later }
def PermutationActsCardSaid : Prop := Claim7.holds Tryd.pinned (.plain (OpenSpec.ofChange permutationActsSpec)) permutationActsCard

/-- THE TIED CARD OF 'roundtablelaw02.PermutationGenerates'. -/
def permutationGeneratesCard : Claim7 := { stood := { row := permutationGeneratesRow, standIns := [], harness := (true, "7918070f86f1839bb394f96700a4c7e4520095db62ccb73389b9d10fc04bc14d"), looks := false }, kinds := [], alts := [], laidByText := true, laidKinds := [.data, .data, .data], laidTests := true, laidLooks := .later }
def PermutationGeneratesCardSaid : Prop := Claim7.holds Tryd.pinned (.plain (OpenSpec.ofChange permutationGeneratesSpec)) permutationGeneratesCard

/-- THE TIED CARD OF 'roundtablelaw02.PermutationTexts'. -/
def permutationTextsCard : Claim7 := { stood := { row := permutationTextsRow, standIns := [], harness := (true, "7918070f86f1839bb394f96700a4c7e4520095db62ccb73389b9d10fc04bc14d"), looks := false }, kinds := [], alts := [], laidByText := true, laidKinds := [.data, .data, .data], laidTests := true, laidLooks := .later }
def PermutationTextsCardSaid : Prop := Claim7.holds Tryd.pinned (.plain (OpenSpec.ofChange permutationTextsSpec)) permutationTextsCard

/-- THE TIED CARD OF 'roundtablelaw02.PermutationGroup'. -/
def permutationGroupCard : Claim7 := { stood := { row := permutationGroupRow, standIns := [], harness := (true, "7918070f86f1839bb394f96700a4c7e4520095db62ccb73389b9d10fc04bc14d"), looks := false }, kinds := [], alts := [], laidByText := true, laidKinds := [.data, .data, .data], laidTests := true, laidLooks := .later }
def PermutationGroupCardSaid : Prop := Claim7.holds Tryd.pinned (.plain (OpenSpec.ofChange permutationGroupSpec)) permutationGroupCard

/-- THE TIED CARD OF 'roundtablelaw02.PermutationMoves'. -/
def permutationMovesCard : Claim7 := { stood := { row := permutationMovesRow, standIns := [], harness := (true, "7918070f86f1839bb394f96700a4c7e4520095db62ccb73389b9d10fc04bc14d"), looks := false }, kinds := [], alts := [], laidByText := true, laidKinds := [.data, .data, .data], laidTests := true, laidLooks := .later }
def PermutationMovesCardSaid : Prop := Claim7.holds Tryd.pinned (.plain (OpenSpec.ofChange permutationMovesSpec)) permutationMovesCard

/-- THE TIED CARD OF 'roundtablelaw02.PermutationCloses'. -/
def permutationClosesCard : Claim7 := { stood := { row := permutationClosesRow, standIns := [], harness := (true, "7918070f86f1839bb394f96700a4c7e4520095db62ccb73389b9d10fc04bc14d"), looks := false }, kinds := [], alts := [], laidByText := true, laidKinds := [.data, .data, .data], laidTests := true, laidLooks := .later }
def PermutationClosesCardSaid : Prop := Claim7.holds Tryd.pinned (.plain (OpenSpec.ofChange permutationClosesSpec)) permutationClosesCard

/-- THE TIED CARD OF 'roundtablelaw02.PermutationReads'. -/
def permutationReadsCard : Claim7 := { stood := { row := permutationReadsRow, standIns := [], harness := (true, "7918070f86f1839bb394f96700a4c7e4520095db62ccb73389b9d10fc04bc14d"), looks := false }, kinds := [], alts := [], laidByText := true, laidKinds := [.data, .data, .data], laidTests := true, laidLooks := .later }
def PermutationReadsCardSaid : Prop := Claim7.holds Tryd.pinned (.plain (OpenSpec.ofChange permutationReadsSpec)) permutationReadsCard

/-- THE SECOND FORM's CARD OF 'roundtablelaw02.PermutationChecks'. -/
def permutationChecksUptoCard : Claim7 := { stood := { row := permutationChecksUptoRow, standIns := [], harness := (true, "7918070f86f1839bb394f96700a4c7e4520095db62ccb73389b9d10fc04bc14d"), looks := false }, kinds := [], alts := [], laidByText := true, laidKinds := [.data, .data, .data], laidTests := true, laidLooks := .later }
def PermutationChecksUptoCardSaid : Prop := Claim7.holds Tryd.pinned (.plain (OpenSpec.upto permutationChecksSpec)) permutationChecksUptoCard

/-- THE SECOND FORM's CARD OF 'roundtablelaw02.PermutationComposes'. -/
def permutationComposesUptoCard : Claim7 := { stood := { row := permutationComposesUptoRow, standIns := [], harness := (true, "7918070f86f1839bb394f96700a4c7e4520095db62ccb73389b9d10fc04bc14d"), looks := false }, kinds := [], alts := [], laidByText := true, laidKinds := [.data, .data, .data], laidTests := true, laidLooks := .later }
def PermutationComposesUptoCardSaid : Prop := Claim7.holds Tryd.pinned (.plain (OpenSpec.upto permutationComposesSpec)) permutationComposesUptoCard

/-- THE SECOND FORM's CARD OF 'roundtablelaw02.PermutationActs'. -/
def permutationActsUptoCard : Claim7 := { stood := { row := permutationActsUptoRow, standIns := [], harness := (true, "7918070f86f1839bb394f96700a4c7e4520095db62ccb73389b9d10fc04bc14d"), looks := false }, kinds := [], alts := [], laidByText := true, laidKinds := [.data, .data, .data], laidTests := true, laidLooks := .later }
def PermutationActsUptoCardSaid : Prop := Claim7.holds Tryd.pinned (.plain (OpenSpec.upto permutationActsSpec)) permutationActsUptoCard

/-- THE SECOND FORM's CARD OF 'roundtablelaw02.PermutationGenerates'. -/
def permutationGeneratesUptoCard : Claim7 := { stood := { row := permutationGeneratesUptoRow, standIns := [], harness := (true, "7918070f86f1839bb394f96700a4c7e4520095db62ccb73389b9d10fc04bc14d"), looks := false }, kinds := [], alts := [], laidByText := true, laidKinds := [.data, .data, .data], laidTests := true, laidLooks := .later }
def PermutationGeneratesUptoCardSaid : Prop := Claim7.holds Tryd.pinned (.plain (OpenSpec.upto permutationGeneratesSpec)) permutationGeneratesUptoCard

/-- THE SECOND FORM's CARD OF 'roundtablelaw02.PermutationTexts'. -/
def permutationTextsUptoCard : Claim7 := { stood := { row := permutationTextsUptoRow, standIns := [], harness := (true, "7918070f86f1839bb394f96700a4c7e4520095db62ccb73389b9d10fc04bc14d"), looks := false }, kinds := [], alts := [], laidByText := true, laidKinds := [.data, .data, .data], laidTests := true, laidLooks := .later }
def PermutationTextsUptoCardSaid : Prop := Claim7.holds Tryd.pinned (.plain (OpenSpec.upto permutationTextsSpec)) permutationTextsUptoCard

/-- THE SECOND FORM's CARD OF 'roundtablelaw02.PermutationGroup'. -/
def permutationGroupUptoCard : Claim7 := { stood := { row := permutationGroupUptoRow, standIns := [], harness := (true, "7918070f86f1839bb394f96700a4c7e4520095db62ccb73389b9d10fc04bc14d"), looks := false }, kinds := [], alts := [], laidByText := true, laidKinds := [.data, .data, .data], laidTests := true, laidLooks := .later }
def PermutationGroupUptoCardSaid : Prop := Claim7.holds Tryd.pinned (.plain (OpenSpec.upto permutationGroupSpec)) permutationGroupUptoCard

/-- THE SECOND FORM's CARD OF 'roundtablelaw02.PermutationMoves'. -/
def permutationMovesUptoCard : Claim7 := { stood := { row := permutationMovesUptoRow, standIns := [], harness := (true, "7918070f86f1839bb394f96700a4c7e4520095db62ccb73389b9d10fc04bc14d"), looks := false }, kinds := [], alts := [], laidByText := true, laidKinds := [.data, .data, .data], laidTests := true, laidLooks := .later }
def PermutationMovesUptoCardSaid : Prop := Claim7.holds Tryd.pinned (.plain (OpenSpec.upto permutationMovesSpec)) permutationMovesUptoCard

/-- THE SECOND FORM's CARD OF 'roundtablelaw02.PermutationCloses'. -/
def permutationClosesUptoCard : Claim7 := { stood := { row := permutationClosesUptoRow, standIns := [], harness := (true, "7918070f86f1839bb394f96700a4c7e4520095db62ccb73389b9d10fc04bc14d"), looks := false }, kinds := [], alts := [], laidByText := true, laidKinds := [.data, .data, .data], laidTests := true, laidLooks := .later }
def PermutationClosesUptoCardSaid : Prop := Claim7.holds Tryd.pinned (.plain (OpenSpec.upto permutationClosesSpec)) permutationClosesUptoCard

/-- THE SECOND FORM's CARD OF 'roundtablelaw02.PermutationReads'. -/
def permutationReadsUptoCard : Claim7 := { stood := { row := permutationReadsUptoRow, standIns := [], harness := (true, "7918070f86f1839bb394f96700a4c7e4520095db62ccb73389b9d10fc04bc14d"), looks := false }, kinds := [], alts := [], laidByText := true, laidKinds := [.data, .data, .data], laidTests := true, laidLooks := .later }
def PermutationReadsUptoCardSaid : Prop := Claim7.holds Tryd.pinned (.plain (OpenSpec.upto permutationReadsSpec)) permutationReadsUptoCard
end Rows
end Go.Proofs.YtgppdbiimlbpjaaDoor
