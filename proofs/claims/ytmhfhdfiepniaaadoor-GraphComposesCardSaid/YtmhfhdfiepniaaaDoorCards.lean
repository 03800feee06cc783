/-
  DERIVED. GIVEN WITH THE SEED: THE CARDS: each row of YtmhfhdfiepniaaaDoorRows.lean that lists a variable, with what it lists TIED to the program's text (the seventh form; the later family's looks); each row that meets fmt, with fmt's text TOLD by the authors' own Lean function (tested against real Go, not proved from fmt's source: count such statements apart). THE CARD IS WHAT COUNTS. Prove the row's statement (the work); the ties are given (YtmhfhdfiepniaaaDoorTie.lean); close each card by the builder's one call (the guide's Derived/Test/ToyasCard.lean, 'card_holds'). Laid BY PROGRAM, IN A SANDBOX (cutbox-door.mjs). By AI agents, Wed Nov 11 2026. No macro, syntax, notation, axiom, sorry.
-/
import Derived.Test.YtmhfhdfiepniaaaDoorRows
import GoSem.ClaimSeven
namespace Go.Proofs.YtmhfhdfiepniaaaDoor
namespace Rows

/-- THE TIED CARD OF 'roundtablelaw03.GraphComposes'. -/
def graphComposesCard : Claim7 := { stood := { row := graphComposesRow, standIns := [], harness := (true, "b49c1f131fef49bdf543257d5cc418aad25f7afc71df0a05fcd67db45da7afb8"), looks := false }, kinds := [], alts := [], laidByText := true, laidKinds := [.data, .pinned], laidTests := true, laidLooks := .later }
def GraphComposesCardSaid : Prop := Claim7.holds Tryd.pinned (.plain (OpenSpec.ofChange graphComposesSpec)) graphComposesCard

/-- THE TIED CARD OF 'roundtablelaw03.GraphPermutes'. -/
def graphPermutesCard : Claim7 := { stood := { row := graphPermutesRow, standIns := [], harness := (true, "b49c1f131fef49bdf543257d5cc418aad25f7afc71df0a05fcd67db45da7afb8"), looks := false }, kinds := [], alts := [], laidByText := true, laidKinds := [.data, .pinned], laidTests := true, laidLooks := .later }
def GraphPermutesCardSaid : Prop := Claim7.holds Tryd.pinned (.plain (OpenSpec.ofChange graphPermutesSpec)) graphPermutesCard

/-- THE TIED CARD OF 'roundtablelaw03.GraphAssociates'. -/
def graphAssociatesCard : Claim7 := { stood := { row := graphAssociatesRow, standIns := [], harness := (true, "b49c1f131fef49bdf543257d5cc418aad25f7afc71df0a05fcd67db45da7afb8"), looks := false }, kinds := [], alts := [], laidByText := true, laidKinds := [.data, .pinned], laidTests := true, laidLooks := .later }
def GraphAssociatesCardSaid : Prop := Claim7.holds Tryd.pinned (.plain (OpenSpec.ofChange graphAssociatesSpec)) graphAssociatesCard

/-- THE TIED CARD OF 'roundtablelaw03.GraphRenames'. -/
def graphRenamesCard : Claim7 := { stood := { row := graphRenamesRow, standIns := [], harness := (true, "b49c1f131fef49bdf543257d5cc418aad25f7afc71df0a05fcd67db45da7afb8"), looks := false }, kinds := [], alts := [], laidByText := true, laidKinds := [.data, .pinned], laidTests := true, laidLooks := .later }
def GraphRenamesCardSaid : Prop := Claim7.holds Tryd.pinned (.plain (OpenSpec.ofChange graphRenamesSpec)) graphRenamesCard

/-- THE SECOND FORM's CARD OF 'roundtablelaw03.GraphComposes'. -/
def graphComposesUptoCard : Claim7 := { stood := { row := graphComposesUptoRow, standIns := [], harness := (true, "b49c1f131fef49bdf543257d5cc418aad25f7afc71df0a05fcd67db45da7afb8"), looks := false }, kinds := [], alts := [], laidByText := true, laidKinds := [.data, .pinned], laidTests := true, laidLooks := .later }
def GraphComposesUptoCardSaid : Prop := Claim7.holds Tryd.pinned (.plain (OpenSpec.upto graphComposesSpec)) graphComposesUptoCard

/-- THE SECOND FORM's CARD OF 'roundtablelaw03.GraphPermutes'. -/
def graphPermutesUptoCard : Claim7 := { stood := { row := graphPermutesUptoRow, standIns := [], harness := (true, "b49c1f131fef49bdf543257d5cc418aad25f7afc71df0a05fcd67db45da7afb8"), looks := false }, kinds := [], alts := [], laidByText := true, laidKinds := [.data, .pinned], laidTests := true, laidLooks := .later }
def GraphPermutesUptoCardSaid : Prop := Claim7.holds Tryd.pinned (.plain (OpenSpec.upto graphPermutesSpec)) graphPermutesUptoCard

/-- THE SECOND FORM's CARD OF 'roundtablelaw03.GraphAssociates'. -/
def graphAssociatesUptoCard : Claim7 := { stood := { row := graphAssociatesUptoRow, standIns := [], harness := (true, "b49c1f131fef49bdf543257d5cc418aad25f7afc71df0a05fcd67db45da7afb8"), looks := false }, kinds := [], alts := [], laidByText := true, laidKinds := [.data, .pinned], laidTests := true, laidLooks := .later }
def GraphAssociatesUptoCardSaid : Prop := Claim7.holds Tryd.pinned (.plain (OpenSpec.upto graphAssociatesSpec)) graphAssociatesUptoCard

/-- THE SECOND FORM's CARD OF 'roundtablelaw03.GraphRenames'. -/
def graphRenamesUptoCard : Claim7 := { stood := { row := graphRenamesUptoRow, standIns := [], harness := (true, "b49c1f131fef49bdf543257d5cc418aad25f7afc71df0a05fcd67db45da7afb8"), looks := false }, kinds := [], alts := [], laidByText := true, laidKinds := [.data, .pinned], laidTests := true, laidLooks := .later }
def GraphRenamesUptoCardSaid : Prop := Claim7.holds Tryd.pinned (.plain (OpenSpec.upto graphRenamesSpec)) graphRenamesUptoCard
end Rows
end Go.Proofs.YtmhfhdfiepniaaaDoor
