/-
  DERIVED. GIVEN WITH THE SEED: THE CARDS: each row of YtdobhdhgmbmhfaaDoorRows.lean that lists a variable, with what it lists TIED to the program's text (the seventh form; the later family's looks); each row that meets fmt, with fmt's text TOLD by the authors' own Lean function (tested against real Go, not proved from fmt's source: count such statements apart). THE CARD IS WHAT COUNTS. Prove the row's statement (the work); the ties are given (YtdobhdhgmbmhfaaDoorTie.lean); close each card by the builder's one call (the guide's Derived/Test/ToyasCard.lean, 'card_holds'). Laid BY PROGRAM, IN A SANDBOX (cutbox-door.mjs). By AI agents, Wed Nov 11 2026. No macro, syntax, notation, axiom, sorry.
-/
import Derived.Test.YtdobhdhgmbmhfaaDoorRows
import GoSem.ClaimSeven
namespace Go.Proofs.YtdobhdhgmbmhfaaDoor
namespace Rows

/-- THE TIED CARD OF 'roundtabletop.TopSystemsDecided'. -/
def topSystemsDecidedCard : Claim7 := { stood := { row := topSystemsDecidedRow, standIns := [], harness := (true, "a8c2439bf53bf3ff69be31420e152b5ce7745a16d39373cdc054c2f2c99bf055"), looks := false }, kinds := [], alts := [], laidByText := true, laidKinds := [.data], laidTests := true, laidLooks := .later }
def TopSystemsDecidedCardSaid : Prop := Claim7.holds Tryd.pinned (.plain (OpenSpec.ofChange topSystemsDecidedSpec)) topSystemsDecidedCard

/-- THE TIED CARD OF 'roundtabletop.TopKernelsSpan'. -/
def topKernelsSpanCard : Claim7 := { stood := { row := topKernelsSpanRow, standIns := [], harness := (true, "a8c2439bf53bf3ff69be31420e152b5ce7745a16d39373cdc054c2f2c99bf055"), looks := false }, kinds := [], alts := [], laidByText := true, laidKinds := [.data], laidTests := true, laidLooks := .later }
def TopKernelsSpanCardSaid : Prop := Claim7.holds Tryd.pinned (.plain (OpenSpec.ofChange topKernelsSpanSpec)) topKernelsSpanCard

/-- THE TIED CARD OF 'roundtabletop.TopRanksBounded'. -/
def topRanksBoundedCard : Claim7 := { stood := { row := topRanksBoundedRow, standIns := [], harness := (true, "a8c2439bf53bf3ff69be31420e152b5ce7745a16d39373cdc054c2f2c99bf055"), looks := false }, kinds := [], alts := [], laidByText := true, laidKinds := [.data], laidTests := true, laidLooks := .later }
def TopRanksBoundedCardSaid : Prop := Claim7.holds Tryd.pinned (.plain (OpenSpec.ofChange topRanksBoundedSpec)) topRanksBoundedCard

/-- THE SECOND FORM's CARD OF 'roundtabletop.TopSystemsDecided'. -/
def topSystemsDecidedUptoCard : Claim7 := { stood := { row := topSystemsDecidedUptoRow, standIns := [], harness := (true, "a8c2439bf53bf3ff69be31420e152b5ce7745a16d39373cdc054c2f2c99bf055"), looks := false }, kinds := [], alts := [], laidByText := true, laidKinds := [.data], laidTests := true, laidLooks := .later }
def TopSystemsDecidedUptoCardSaid : Prop := Claim7.holds Tryd.pinned (.plain (OpenSpec.upto topSystemsDecidedSpec)) topSystemsDecidedUptoCard

/-- THE SECOND FORM's CARD OF 'roundtabletop.TopKernelsSpan'. -/
def topKernelsSpanUptoCard : Claim7 := { stood := { row := topKernelsSpanUptoRow, standIns := [], harness := (true, "a8c2439bf53bf3ff69be31420e152b5ce7745a16d39373cdc054c2f2c99bf055"), looks := false }, kinds := [], alts := [], laidByText := true, laidKinds := [.data], laidTests := true, laidLooks := .later }
def TopKernelsSpanUptoCardSaid : Prop := Claim7.holds Tryd.pinned (.plain (OpenSpec.upto topKernelsSpanSpec)) topKernelsSpanUptoCard

/-- THE SECOND FORM's CARD OF 'roundtabletop.TopRanksBounded'. -/
def topRanksBoundedUptoCard : Claim7 := { stood := { row := topRanksBoundedUptoRow, standIns := [], harness := (true, "a8c2439bf53bf3ff69be31420e152b5ce7745a16d39373cdc054c2f2c99bf055"), looks := false }, kinds := [], alts := [], laidByText := true, laidKinds := [.data], laidTests := true, laidLooks := .later }
def TopRanksBoundedUptoCardSaid : Prop := Claim7.holds Tryd.pinned (.plain (OpenSpec.upto topRanksBoundedSpec)) topRanksBoundedUptoCard
end Rows
end Go.Proofs.YtdobhdhgmbmhfaaDoor
