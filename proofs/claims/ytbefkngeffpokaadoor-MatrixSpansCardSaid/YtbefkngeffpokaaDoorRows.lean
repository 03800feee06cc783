/-
  NARROWER THAN 'FOR EVERY INPUT', by the rows' own cells (each row's printed sentence says how): MatrixMakes: laid · MatrixCombines: laid · MatrixReduces: laid · MatrixSolves: laid · MatrixVerifies: laid · MatrixRing: laid · MatrixRanks: laid · MatrixDecides: laid · MatrixSpans: laid.
  DERIVED. THE GIVEN ROWS OF THIS SEAT. 9 by the template 'for every input the law returns true; each argument reads behind the call as it read before'; 0 by the template 'total and deterministic' (their statements: YtbefkngeffpokaaDoorTotals.lean).
  GIVEN WITH THE SEED: the statements are not yours to turn. If you find one false, say at which input.
  Laid BY PROGRAM, IN A SANDBOX (cutbox-rows.mjs): the forced cells as the released guide's own fill.sh prints them over the translation 0e6465a918a947be… (all of the seat's roots in one cut). By AI agents, Wed Nov 11 2026. No macro, syntax, notation, axiom, sorry.
-/
import Derived.Test.YtbefkngeffpokaaDoorChecked
import GoSem.Claim
import GoSem.ClaimJoined
import GoSem.ClaimMapViews
import Derived.JoinedTies
import Derived.KernelRfl
namespace Go.Proofs.YtbefkngeffpokaaDoor
/- THE CELL 'sum', in the pinned program and in every row, IS THE sha256 OF THE DUMP (.gsa) THAT YtbefkngeffpokaaDoorProg.lean LOADS. Nothing in Lean hashes anything: it is a label: what it is worth is what the hold of that sum in a sandbox is worth. -/
noncomputable def Tryd.pinned : Pinned := { name := "ytbefkngeffpokaadoor", sum := "0e6465a918a947be6adcce2232047c308c0898ca393f52b593b4e1a65a30bcaf", checked := Tryd.checked }
namespace Rows
def none {H : Type} : Left H := { results := [], args := [] }

/- WHAT THE LISTED PACKAGE-LEVEL VARIABLES READ AS WHEN THE CALL BEGINS. Each datum BY PROGRAM (the guide's laid-datum.mjs) off the statement by which the dump's own 'gosem.cut.vars' lays the variable. In a bare row this is a premise. The card (YtbefkngeffpokaaDoorCards.lean) ties it to the program's text. -/
def laid_math_bits_deBruijn64tab {H : Type} : DataW H := .agg [.lit (.int .u8 0), .lit (.int .u8 1), .lit (.int .u8 56), .lit (.int .u8 2), .lit (.int .u8 57), .lit (.int .u8 49), .lit (.int .u8 28), .lit (.int .u8 3), .lit (.int .u8 61), .lit (.int .u8 58), .lit (.int .u8 42), .lit (.int .u8 50), .lit (.int .u8 38), .lit (.int .u8 29), .lit (.int .u8 17), .lit (.int .u8 4), .lit (.int .u8 62), .lit (.int .u8 47), .lit (.int .u8 59), .lit (.int .u8 36), .lit (.int .u8 45), .lit (.int .u8 43), .lit (.int .u8 51), .lit (.int .u8 22), .lit (.int .u8 53), .lit (.int .u8 39), .lit (.int .u8 33), .lit (.int .u8 30), .lit (.int .u8 24), .lit (.int .u8 18), .lit (.int .u8 12), .lit (.int .u8 5), .lit (.int .u8 63), .lit (.int .u8 55), .lit (.int .u8 48), .lit (.int .u8 27), .lit (.int .u8 60), .lit (.int .u8 41), .lit (.int .u8 37), .lit (.int .u8 16), .lit (.int .u8 46), .lit (.int .u8 35), .lit (.int .u8 44), .lit (.int .u8 21), .lit (.int .u8 52), .lit (.int .u8 32), .lit (.int .u8 23), .lit (.int .u8 11), .lit (.int .u8 54), .lit (.int .u8 26), .lit (.int .u8 40), .lit (.int .u8 15), .lit (.int .u8 34), .lit (.int .u8 20), .lit (.int .u8 31), .lit (.int .u8 10), .lit (.int .u8 25), .lit (.int .u8 14), .lit (.int .u8 19), .lit (.int .u8 9), .lit (.int .u8 13), .lit (.int .u8 8), .lit (.int .u8 7), .lit (.int .u8 6)]

/-- 'roundtablelaw05.MatrixMakes': WHATEVER THE INPUT: true; the input reads as it did. -/
def matrixMakesSpec : ChangeSpec := { name := "matrixMakes", fn := fun _ => fun
  | [d1, d2] => { results := [.lit (.bool true)], args := [d1, d2] }
  | _ => none }
def matrixMakesRow : OpenClaim := { program := "ytbefkngeffpokaadoor", sum := "0e6465a918a947be6adcce2232047c308c0898ca393f52b593b4e1a65a30bcaf", func := "roundtable/roundtablelaw05.MatrixMakes", spec := "matrixMakes", unfollowed := true, recurses := true, named := ["math/bits.deBruijn64tab"], apart := false, laid := [("math/bits.deBruijn64tab", laid_math_bits_deBruijn64tab)] }
def MatrixMakesSaid : Prop := matrixMakesRow.holds Tryd.pinned (OpenSpec.ofChange matrixMakesSpec)

/-- ITS FALSE NEIGHBOUR: 'it returns false'. Refute it at one input. -/
def matrixMakesWrong : ChangeSpec := { name := "matrixMakes", fn := fun _ => fun
  | [d1, d2] => { results := [.lit (.bool false)], args := [d1, d2] }
  | _ => none }
def MatrixMakesWrongFalsely : Prop := matrixMakesRow.holds Tryd.pinned (OpenSpec.ofChange matrixMakesWrong)

/-- 'roundtablelaw05.MatrixCombines': WHATEVER THE INPUT: true; the input reads as it did. -/
def matrixCombinesSpec : ChangeSpec := { name := "matrixCombines", fn := fun _ => fun
  | [d1, d2] => { results := [.lit (.bool true)], args := [d1, d2] }
  | _ => none }
def matrixCombinesRow : OpenClaim := { program := "ytbefkngeffpokaadoor", sum := "0e6465a918a947be6adcce2232047c308c0898ca393f52b593b4e1a65a30bcaf", func := "roundtable/roundtablelaw05.MatrixCombines", spec := "matrixCombines", unfollowed := true, recurses := true, named := ["math/bits.deBruijn64tab"], apart := false, laid := [("math/bits.deBruijn64tab", laid_math_bits_deBruijn64tab)] }
def MatrixCombinesSaid : Prop := matrixCombinesRow.holds Tryd.pinned (OpenSpec.ofChange matrixCombinesSpec)

/-- ITS FALSE NEIGHBOUR: 'it returns false'. Refute it at one input. -/
def matrixCombinesWrong : ChangeSpec := { name := "matrixCombines", fn := fun _ => fun
  | [d1, d2] => { results := [.lit (.bool false)], args := [d1, d2] }
  | _ => none }
def MatrixCombinesWrongFalsely : Prop := matrixCombinesRow.holds Tryd.pinned (OpenSpec.ofChange matrixCombinesWrong)

/-- 'roundtablelaw05.MatrixReduces': WHATEVER THE INPUT: true; the input reads as it did. -/
def matrixReducesSpec : ChangeSpec := { name := "matrixReduces", fn := fun _ => fun
  | [d] => { results := [.lit (.bool true)], args := [d] }
  | _ => none }
def matrixReducesRow : OpenClaim := { program := "ytbefkngeffpokaadoor", sum := "0e6465a918a947be6adcce2232047c308c0898ca393f52b593b4e1a65a30bcaf", func := "roundtable/roundtablelaw05.MatrixReduces", spec := "matrixReduces", unfollowed := true, recurses := true, named := ["math/bits.deBruijn64tab"], apart := false, laid := [("math/bits.deBruijn64tab", laid_math_bits_deBruijn64tab)] }
def MatrixReducesSaid : Prop := matrixReducesRow.holds Tryd.pinned (OpenSpec.ofChange matrixReducesSpec)

/-- ITS FALSE NEIGHBOUR: 'it returns false'. Refute it at one input. -/
def matrixReducesWrong : ChangeSpec := { name := "matrixReduces", fn := fun _ => fun
  | [d] => { results := [.lit (.bool false)], args := [d] }
  | _ => none }
def MatrixReducesWrongFalsely : Prop := matrixReducesRow.holds Tryd.pinned (OpenSpec.ofChange matrixReducesWrong)

/-- 'roundtablelaw05.MatrixSolves': WHATEVER THE INPUT: true; the input reads as it did. -/
def matrixSolvesSpec : ChangeSpec := { name := "matrixSolves", fn := fun _ => fun
  | [d1, d2] => { results := [.lit (.bool true)], args := [d1, d2] }
  | _ => none }
def matrixSolvesRow : OpenClaim := { program := "ytbefkngeffpokaadoor", sum := "0e6465a918a947be6adcce2232047c308c0898ca393f52b593b4e1a65a30bcaf", func := "roundtable/roundtablelaw05.MatrixSolves", spec := "matrixSolves", unfollowed := true, recurses := true, named := ["math/bits.deBruijn64tab"], apart := false, laid := [("math/bits.deBruijn64tab", laid_math_bits_deBruijn64tab)] }
def MatrixSolvesSaid : Prop := matrixSolvesRow.holds Tryd.pinned (OpenSpec.ofChange matrixSolvesSpec)

/-- ITS FALSE NEIGHBOUR: 'it returns false'. Refute it at one input. -/
def matrixSolvesWrong : ChangeSpec := { name := "matrixSolves", fn := fun _ => fun
  | [d1, d2] => { results := [.lit (.bool false)], args := [d1, d2] }
  | _ => none }
def MatrixSolvesWrongFalsely : Prop := matrixSolvesRow.holds Tryd.pinned (OpenSpec.ofChange matrixSolvesWrong)

/-- 'roundtablelaw05.MatrixVerifies': WHATEVER THE INPUT: true; the input reads as it did. -/
def matrixVerifiesSpec : ChangeSpec := { name := "matrixVerifies", fn := fun _ => fun
  | [d1, d2, d3] => { results := [.lit (.bool true)], args := [d1, d2, d3] }
  | _ => none }
def matrixVerifiesRow : OpenClaim := { program := "ytbefkngeffpokaadoor", sum := "0e6465a918a947be6adcce2232047c308c0898ca393f52b593b4e1a65a30bcaf", func := "roundtable/roundtablelaw05.MatrixVerifies", spec := "matrixVerifies", unfollowed := true, recurses := true, named := ["math/bits.deBruijn64tab"], apart := false, laid := [("math/bits.deBruijn64tab", laid_math_bits_deBruijn64tab)] }
def MatrixVerifiesSaid : Prop := matrixVerifiesRow.holds Tryd.pinned (OpenSpec.ofChange matrixVerifiesSpec)

/-- ITS FALSE NEIGHBOUR: 'it returns false'. Refute it at one input. -/
def matrixVerifiesWrong : ChangeSpec := { name := "matrixVerifies", fn := fun _ => fun
  | [d1, d2, d3] => { results := [.lit (.bool false)], args := [d1, d2, d3] }
  | _ => none }
def MatrixVerifiesWrongFalsely : Prop := matrixVerifiesRow.holds Tryd.pinned (OpenSpec.ofChange matrixVerifiesWrong)

/-- 'roundtablelaw05.MatrixRing': WHATEVER THE INPUT: true; the input reads as it did. -/
def matrixRingSpec : ChangeSpec := { name := "matrixRing", fn := fun _ => fun
  | [d1, d2, d3] => { results := [.lit (.bool true)], args := [d1, d2, d3] }
  | _ => none }
def matrixRingRow : OpenClaim := { program := "ytbefkngeffpokaadoor", sum := "0e6465a918a947be6adcce2232047c308c0898ca393f52b593b4e1a65a30bcaf", func := "roundtable/roundtablelaw05.MatrixRing", spec := "matrixRing", unfollowed := true, recurses := true, named := ["math/bits.deBruijn64tab"], apart := false, laid := [("math/bits.deBruijn64tab", laid_math_bits_deBruijn64tab)] }
def MatrixRingSaid : Prop := matrixRingRow.holds Tryd.pinned (OpenSpec.ofChange matrixRingSpec)

/-- ITS FALSE NEIGHBOUR: 'it returns false'. Refute it at one input. -/
def matrixRingWrong : ChangeSpec := { name := "matrixRing", fn := fun _ => fun
  | [d1, d2, d3] => { results := [.lit (.bool false)], args := [d1, d2, d3] }
  | _ => none }
def MatrixRingWrongFalsely : Prop := matrixRingRow.holds Tryd.pinned (OpenSpec.ofChange matrixRingWrong)

/-- 'roundtablelaw05.MatrixRanks': WHATEVER THE INPUT: true; the input reads as it did. -/
def matrixRanksSpec : ChangeSpec := { name := "matrixRanks", fn := fun _ => fun
  | [d] => { results := [.lit (.bool true)], args := [d] }
  | _ => none }
def matrixRanksRow : OpenClaim := { program := "ytbefkngeffpokaadoor", sum := "0e6465a918a947be6adcce2232047c308c0898ca393f52b593b4e1a65a30bcaf", func := "roundtable/roundtablelaw05.MatrixRanks", spec := "matrixRanks", unfollowed := true, recurses := true, named := ["math/bits.deBruijn64tab"], apart := false, laid := [("math/bits.deBruijn64tab", laid_math_bits_deBruijn64tab)] }
def MatrixRanksSaid : Prop := matrixRanksRow.holds Tryd.pinned (OpenSpec.ofChange matrixRanksSpec)

/-- ITS FALSE NEIGHBOUR: 'it returns false'. Refute it at one input. -/
def matrixRanksWrong : ChangeSpec := { name := "matrixRanks", fn := fun _ => fun
  | [d] => { results := [.lit (.bool false)], args := [d] }
  | _ => none }
def MatrixRanksWrongFalsely : Prop := matrixRanksRow.holds Tryd.pinned (OpenSpec.ofChange matrixRanksWrong)

/-- 'roundtablelaw05.MatrixDecides': WHATEVER THE INPUT: true; the input reads as it did. -/
def matrixDecidesSpec : ChangeSpec := { name := "matrixDecides", fn := fun _ => fun
  | [d1, d2, d3] => { results := [.lit (.bool true)], args := [d1, d2, d3] }
  | _ => none }
def matrixDecidesRow : OpenClaim := { program := "ytbefkngeffpokaadoor", sum := "0e6465a918a947be6adcce2232047c308c0898ca393f52b593b4e1a65a30bcaf", func := "roundtable/roundtablelaw05.MatrixDecides", spec := "matrixDecides", unfollowed := true, recurses := true, named := ["math/bits.deBruijn64tab"], apart := false, laid := [("math/bits.deBruijn64tab", laid_math_bits_deBruijn64tab)] }
def MatrixDecidesSaid : Prop := matrixDecidesRow.holds Tryd.pinned (OpenSpec.ofChange matrixDecidesSpec)

/-- ITS FALSE NEIGHBOUR: 'it returns false'. Refute it at one input. -/
def matrixDecidesWrong : ChangeSpec := { name := "matrixDecides", fn := fun _ => fun
  | [d1, d2, d3] => { results := [.lit (.bool false)], args := [d1, d2, d3] }
  | _ => none }
def MatrixDecidesWrongFalsely : Prop := matrixDecidesRow.holds Tryd.pinned (OpenSpec.ofChange matrixDecidesWrong)

/-- 'roundtablelaw05.MatrixSpans': WHATEVER THE INPUT: true; the input reads as it did. -/
def matrixSpansSpec : ChangeSpec := { name := "matrixSpans", fn := fun _ => fun
  | [d1, d2] => { results := [.lit (.bool true)], args := [d1, d2] }
  | _ => none }
def matrixSpansRow : OpenClaim := { program := "ytbefkngeffpokaadoor", sum := "0e6465a918a947be6adcce2232047c308c0898ca393f52b593b4e1a65a30bcaf", func := "roundtable/roundtablelaw05.MatrixSpans", spec := "matrixSpans", unfollowed := true, recurses := true, named := ["math/bits.deBruijn64tab"], apart := false, laid := [("math/bits.deBruijn64tab", laid_math_bits_deBruijn64tab)] }
def MatrixSpansSaid : Prop := matrixSpansRow.holds Tryd.pinned (OpenSpec.ofChange matrixSpansSpec)

/-- ITS FALSE NEIGHBOUR: 'it returns false'. Refute it at one input. -/
def matrixSpansWrong : ChangeSpec := { name := "matrixSpans", fn := fun _ => fun
  | [d1, d2] => { results := [.lit (.bool false)], args := [d1, d2] }
  | _ => none }
def MatrixSpansWrongFalsely : Prop := matrixSpansRow.holds Tryd.pinned (OpenSpec.ofChange matrixSpansWrong)

/- THE SECOND FORM. 'bulk': how many values and letters a reading holds, each counted each time it is reached (what is shared counts as often as it is met; a slice's spare places count too). A statement '..UptoSaid' is the law's where the arguments, and the package variables that the reading takes, are together of bulk at most 1048576: NARROWER than '..Said'. Prove '..Said' where nothing that the law and all that it calls make is longer than what came in: it says more and counts as full. Else prove '..UptoSaid'. A law counts once. -/
mutual
def uptoBulk {H : Type} : DataW H → Nat
  | .lit (.string bytes) => bytes.length + 1
  | .lit _ => 1
  | .nil => 1
  | .ptr d => uptoBulk d + 1
  | .slice elems spare => uptoBulkAll elems + uptoBulkAll spare + 1
  | .agg parts => uptoBulkAll parts + 1
  | .iface _ d => uptoBulk d + 1
  | .map entries => uptoBulkEntries entries + 1
  | .held _ => 1
def uptoBulkAll {H : Type} : List (DataW H) → Nat
  | [] => 0
  | d :: r => uptoBulk d + uptoBulkAll r
def uptoBulkEntries {H : Type} : List (Lit × DataW H) → Nat
  | [] => 0
  | x :: r => uptoBulkEntry x + uptoBulkEntries r
def uptoBulkEntry {H : Type} : Lit × DataW H → Nat
  | (.string bytes, d) => bytes.length + uptoBulk d + 1
  | (_, d) => uptoBulk d + 1
 end
def uptoSmall : (H : Type) → List (DataW H) → Bool := fun _ ds => decide (uptoBulkAll ds ≤ 1048576)
def OpenSpec.upto (s : _root_.Go.ChangeSpec) : _root_.Go.OpenSpec := { _root_.Go.OpenSpec.ofChange s with cond := some uptoSmall }

/-- 'roundtablelaw05.MatrixMakes', WHERE WHAT IT READS IS OF BULK AT MOST 1048576: true; the input reads as it did. -/
def matrixMakesUptoRow : OpenClaim := { program := "ytbefkngeffpokaadoor", sum := "0e6465a918a947be6adcce2232047c308c0898ca393f52b593b4e1a65a30bcaf", func := "roundtable/roundtablelaw05.MatrixMakes", spec := "matrixMakes", unfollowed := true, recurses := true, named := ["math/bits.deBruijn64tab"], apart := false, laid := [("math/bits.deBruijn64tab", laid_math_bits_deBruijn64tab)], narrowed := true }
def MatrixMakesUptoSaid : Prop := matrixMakesUptoRow.holds Tryd.pinned (OpenSpec.upto matrixMakesSpec)

/-- 'roundtablelaw05.MatrixCombines', WHERE WHAT IT READS IS OF BULK AT MOST 1048576: true; the input reads as it did. -/
def matrixCombinesUptoRow : OpenClaim := { program := "ytbefkngeffpokaadoor", sum := "0e6465a918a947be6adcce2232047c308c0898ca393f52b593b4e1a65a30bcaf", func := "roundtable/roundtablelaw05.MatrixCombines", spec := "matrixCombines", unfollowed := true, recurses := true, named := ["math/bits.deBruijn64tab"], apart := false, laid := [("math/bits.deBruijn64tab", laid_math_bits_deBruijn64tab)], narrowed := true }
def MatrixCombinesUptoSaid : Prop := matrixCombinesUptoRow.holds Tryd.pinned (OpenSpec.upto matrixCombinesSpec)

/-- 'roundtablelaw05.MatrixReduces', WHERE WHAT IT READS IS OF BULK AT MOST 1048576: true; the input reads as it did. -/
def matrixReducesUptoRow : OpenClaim := { program := "ytbefkngeffpokaadoor", sum := "0e6465a918a947be6adcce2232047c308c0898ca393f52b593b4e1a65a30bcaf", func := "roundtable/roundtablelaw05.MatrixReduces", spec := "matrixReduces", unfollowed := true, recurses := true, named := ["math/bits.deBruijn64tab"], apart := false, laid := [("math/bits.deBruijn64tab", laid_math_bits_deBruijn64tab)], narrowed := true }
def MatrixReducesUptoSaid : Prop := matrixReducesUptoRow.holds Tryd.pinned (OpenSpec.upto matrixReducesSpec)

/-- 'roundtablelaw05.MatrixSolves', WHERE WHAT IT READS IS OF BULK AT MOST 1048576: true; the input reads as it did. -/
def matrixSolvesUptoRow : OpenClaim := { program := "ytbefkngeffpokaadoor", sum := "0e6465a918a947be6adcce2232047c308c0898ca393f52b593b4e1a65a30bcaf", func := "roundtable/roundtablelaw05.MatrixSolves", spec := "matrixSolves", unfollowed := true, recurses := true, named := ["math/bits.deBruijn64tab"], apart := false, laid := [("math/bits.deBruijn64tab", laid_math_bits_deBruijn64tab)], narrowed := true }
def MatrixSolvesUptoSaid : Prop := matrixSolvesUptoRow.holds Tryd.pinned (OpenSpec.upto matrixSolvesSpec)

/-- 'roundtablelaw05.MatrixVerifies', WHERE WHAT IT READS IS OF BULK AT MOST 1048576: true; the input reads as it did. -/
def matrixVerifiesUptoRow : OpenClaim := { program := "ytbefkngeffpokaadoor", sum := "0e6465a918a947be6adcce2232047c308c0898ca393f52b593b4e1a65a30bcaf", func := "roundtable/roundtablelaw05.MatrixVerifies", spec := "matrixVerifies", unfollowed := true, recurses := true, named := ["math/bits.deBruijn64tab"], apart := false, laid := [("math/bits.deBruijn64tab", laid_math_bits_deBruijn64tab)], narrowed := true }
def MatrixVerifiesUptoSaid : Prop := matrixVerifiesUptoRow.holds Tryd.pinned (OpenSpec.upto matrixVerifiesSpec)

/-- 'roundtablelaw05.MatrixRing', WHERE WHAT IT READS IS OF BULK AT MOST 1048576: true; the input reads as it did. -/
def matrixRingUptoRow : OpenClaim := { program := "ytbefkngeffpokaadoor", sum := "0e6465a918a947be6adcce2232047c308c0898ca393f52b593b4e1a65a30bcaf", func := "roundtable/roundtablelaw05.MatrixRing", spec := "matrixRing", unfollowed := true, recurses := true, named := ["math/bits.deBruijn64tab"], apart := false, laid := [("math/bits.deBruijn64tab", laid_math_bits_deBruijn64tab)], narrowed := true }
def MatrixRingUptoSaid : Prop := matrixRingUptoRow.holds Tryd.pinned (OpenSpec.upto matrixRingSpec)

/-- 'roundtablelaw05.MatrixRanks', WHERE WHAT IT READS IS OF BULK AT MOST 1048576: true; the input reads as it did. -/
def matrixRanksUptoRow : OpenClaim := { program := "ytbefkngeffpokaadoor", sum := "0e6465a918a947be6adcce2232047c308c0898ca393f52b593b4e1a65a30bcaf", func := "roundtable/roundtablelaw05.MatrixRanks", spec := "matrixRanks", unfollowed := true, recurses := true, named := ["math/bits.deBruijn64tab"], apart := false, laid := [("math/bits.deBruijn64tab", laid_math_bits_deBruijn64tab)], narrowed := true }
def MatrixRanksUptoSaid : Prop := matrixRanksUptoRow.holds Tryd.pinned (OpenSpec.upto matrixRanksSpec)

/-- 'roundtablelaw05.MatrixDecides', WHERE WHAT IT READS IS OF BULK AT MOST 1048576: true; the input reads as it did. -/
def matrixDecidesUptoRow : OpenClaim := { program := "ytbefkngeffpokaadoor", sum := "0e6465a918a947be6adcce2232047c308c0898ca393f52b593b4e1a65a30bcaf", func := "roundtable/roundtablelaw05.MatrixDecides", spec := "matrixDecides", unfollowed := true, recurses := true, named := ["math/bits.deBruijn64tab"], apart := false, laid := [("math/bits.deBruijn64tab", laid_math_bits_deBruijn64tab)], narrowed := true }
def MatrixDecidesUptoSaid : Prop := matrixDecidesUptoRow.holds Tryd.pinned (OpenSpec.upto matrixDecidesSpec)

/-- 'roundtablelaw05.MatrixSpans', WHERE WHAT IT READS IS OF BULK AT MOST 1048576: true; the input reads as it did. -/
def matrixSpansUptoRow : OpenClaim := { program := "ytbefkngeffpokaadoor", sum := "0e6465a918a947be6adcce2232047c308c0898ca393f52b593b4e1a65a30bcaf", func := "roundtable/roundtablelaw05.MatrixSpans", spec := "matrixSpans", unfollowed := true, recurses := true, named := ["math/bits.deBruijn64tab"], apart := false, laid := [("math/bits.deBruijn64tab", laid_math_bits_deBruijn64tab)], narrowed := true }
def MatrixSpansUptoSaid : Prop := matrixSpansUptoRow.holds Tryd.pinned (OpenSpec.upto matrixSpansSpec)

end Rows
end Go.Proofs.YtbefkngeffpokaaDoor
