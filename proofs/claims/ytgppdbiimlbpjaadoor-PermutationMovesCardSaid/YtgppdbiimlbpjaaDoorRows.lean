/-
  NARROWER THAN 'FOR EVERY INPUT', by the rows' own cells (each row's printed sentence says how): PermutationChecks: laid · PermutationComposes: laid · PermutationActs: laid · PermutationGenerates: laid · PermutationTexts: laid · PermutationGroup: laid · PermutationMoves: laid · PermutationCloses: laid · PermutationReads: laid.
  DERIVED. THE GIVEN ROWS OF THIS SEAT. 9 by the template 'for every input the law returns true; each argument reads behind the call as it read before'; 0 by the template 'total and deterministic' (their statements: YtgppdbiimlbpjaaDoorTotals.lean).
  GIVEN WITH THE SEED: the statements are not yours to turn. If you find one false, say at which input.
  Laid BY PROGRAM, IN A SANDBOX (cutbox-rows.mjs): the forced cells as the released guide's own fill.sh prints them over the translation 4f6f4f166eead4ec… (all of the seat's roots in one cut). By AI agents, Wed Nov 11 2026. No macro, syntax, notation, axiom, sorry.
-/
import Derived.Test.YtgppdbiimlbpjaaDoorChecked
import GoSem.Claim
import GoSem.ClaimJoined
import GoSem.ClaimMapViews
import Derived.JoinedTies
import Derived.KernelRfl
namespace Go.Proofs.YtgppdbiimlbpjaaDoor
/- THE CELL 'sum', in the pinned program and in every row, IS THE sha256 OF THE DUMP (.gsa) THAT YtgppdbiimlbpjaaDoorProg.lean LOADS. Nothing in Lean hashes anything: it is a label: what it is worth is what the hold of that sum in a sandbox is worth. -/
noncomputable def Tryd.pinned : Pinned := { name := "ytgppdbiimlbpjaadoor", sum := "4f6f4f166eead4ec7eec89d3aa66e752f75cb84fac3187f08a61e832e4125dae", checked := Tryd.checked }
namespace Rows
def none {H : Type} : Left H := { results := [], args := [] }

/- WHAT THE LISTED PACKAGE-LEVEL VARIABLES READ AS WHEN THE CALL BEGINS. Each datum BY PROGRAM (the guide's laid-datum.mjs) off the statement by which the dump's own 'gosem.cut.vars' lays the variable. In a bare row this is a premise. The card (YtgppdbiimlbpjaaDoorCards.lean) ties it to the program's text. -/
def laid_math_bits_deBruijn32tab {H : Type} : DataW H := .agg [.lit (.int .u8 0), .lit (.int .u8 1), .lit (.int .u8 28), .lit (.int .u8 2), .lit (.int .u8 29), .lit (.int .u8 14), .lit (.int .u8 24), .lit (.int .u8 3), .lit (.int .u8 30), .lit (.int .u8 22), .lit (.int .u8 20), .lit (.int .u8 15), .lit (.int .u8 25), .lit (.int .u8 17), .lit (.int .u8 4), .lit (.int .u8 8), .lit (.int .u8 31), .lit (.int .u8 27), .lit (.int .u8 13), .lit (.int .u8 23), .lit (.int .u8 21), .lit (.int .u8 19), .lit (.int .u8 16), .lit (.int .u8 7), .lit (.int .u8 26), .lit (.int .u8 12), .lit (.int .u8 18), .lit (.int .u8 6), .lit (.int .u8 11), .lit (.int .u8 5), .lit (.int .u8 10), .lit (.int .u8 9)]
def laid_math_bits_deBruijn64tab {H : Type} : DataW H := .agg [.lit (.int .u8 0), .lit (.int .u8 1), .lit (.int .u8 56), .lit (.int .u8 2), .lit (.int .u8 57), .lit (.int .u8 49), .lit (.int .u8 28), .lit (.int .u8 3), .lit (.int .u8 61), .lit (.int .u8 58), .lit (.int .u8 42), .lit (.int .u8 50), .lit (.int .u8 38), .lit (.int .u8 29), .lit (.int .u8 17), .lit (.int .u8 4), .lit (.int .u8 62), .lit (.int .u8 47), .lit (.int .u8 59), .lit (.int .u8 36), .lit (.int .u8 45), .lit (.int .u8 43), .lit (.int .u8 51), .lit (.int .u8 22), .lit (.int .u8 53), .lit (.int .u8 39), .lit (.int .u8 33), .lit (.int .u8 30), .lit (.int .u8 24), .lit (.int .u8 18), .lit (.int .u8 12), .lit (.int .u8 5), .lit (.int .u8 63), .lit (.int .u8 55), .lit (.int .u8 48), .lit (.int .u8 27), .lit (.int .u8 60), .lit (.int .u8 41), .lit (.int .u8 37), .lit (.int .u8 16), .lit (.int .u8 46), .lit (.int .u8 35), .lit (.int .u8 44), .lit (.int .u8 21), .lit (.int .u8 52), .lit (.int .u8 32), .lit (.int .u8 23), .lit (.int .u8 11), .lit (.int .u8 54), .lit (.int .u8 26), .lit (.int .u8 40), .lit (.int .u8 15), .lit (.int .u8 34), .lit (.int .u8 20), .lit (.int .u8 31), .lit (.int .u8 10), .lit (.int .u8 25), .lit (.int .u8 14), .lit (.int .u8 19), .lit (.int .u8 9), .lit (.int .u8 13), .lit (.int .u8 8), .lit (.int .u8 7), .lit (.int .u8 6)]
def laid_internal_strconv_uint64pow10 {H : Type} : DataW H := .agg [.lit (.int .u64 1), .lit (.int .u64 10), .lit (.int .u64 100), .lit (.int .u64 1000), .lit (.int .u64 10000), .lit (.int .u64 100000), .lit (.int .u64 1000000), .lit (.int .u64 10000000), .lit (.int .u64 100000000), .lit (.int .u64 1000000000), .lit (.int .u64 10000000000), .lit (.int .u64 100000000000), .lit (.int .u64 1000000000000), .lit (.int .u64 10000000000000), .lit (.int .u64 100000000000000), .lit (.int .u64 1000000000000000), .lit (.int .u64 10000000000000000), .lit (.int .u64 100000000000000000), .lit (.int .u64 1000000000000000000), .lit (.int .u64 10000000000000000000)]

/-- 'roundtablelaw02.PermutationChecks': WHATEVER THE INPUT: true; the input reads as it did. -/
def permutationChecksSpec : ChangeSpec := { name := "permutationChecks", fn := fun _ => fun
  | [d] => { results := [.lit (.bool true)], args := [d] }
  | _ => none }
def permutationChecksRow : OpenClaim := { program := "ytgppdbiimlbpjaadoor", sum := "4f6f4f166eead4ec7eec89d3aa66e752f75cb84fac3187f08a61e832e4125dae", func := "roundtable/roundtablelaw02.PermutationChecks", spec := "permutationChecks", unfollowed := true, recurses := true, named := ["internal/strconv.uint64pow10", "math/bits.deBruijn32tab", "math/bits.deBruijn64tab"], plainKeys := false, apart := false, laid := [("math/bits.deBruijn32tab", laid_math_bits_deBruijn32tab), ("math/bits.deBruijn64tab", laid_math_bits_deBruijn64tab), ("internal/strconv.uint64pow10", laid_internal_strconv_uint64pow10)] }
def PermutationChecksSaid : Prop := permutationChecksRow.holds Tryd.pinned (OpenSpec.ofChange permutationChecksSpec)

/-- ITS FALSE NEIGHBOUR: 'it returns false'. Refute it at one input. -/
def permutationChecksWrong : ChangeSpec := { name := "permutationChecks", fn := fun _ => fun
  | [d] => { results := [.lit (.bool false)], args := [d] }
  | _ => none }
def PermutationChecksWrongFalsely : Prop := permutationChecksRow.holds Tryd.pinned (OpenSpec.ofChange permutationChecksWrong)

/-- 'roundtablelaw02.PermutationComposes': WHATEVER THE INPUT: true; the input reads as it did. -/
def permutationComposesSpec : ChangeSpec := { name := "permutationComposes", fn := fun _ => fun
  | [d1, d2, d3] => { results := [.lit (.bool true)], args := [d1, d2, d3] }
  | _ => none }
def permutationComposesRow : OpenClaim := { program := "ytgppdbiimlbpjaadoor", sum := "4f6f4f166eead4ec7eec89d3aa66e752f75cb84fac3187f08a61e832e4125dae", func := "roundtable/roundtablelaw02.PermutationComposes", spec := "permutationComposes", unfollowed := true, recurses := true, named := ["internal/strconv.uint64pow10", "math/bits.deBruijn32tab", "math/bits.deBruijn64tab"], plainKeys := false, apart := false, laid := [("math/bits.deBruijn32tab", laid_math_bits_deBruijn32tab), ("math/bits.deBruijn64tab", laid_math_bits_deBruijn64tab), ("internal/strconv.uint64pow10", laid_internal_strconv_uint64pow10)] }
def PermutationComposesSaid : Prop := permutationComposesRow.holds Tryd.pinned (OpenSpec.ofChange permutationComposesSpec)

/-- ITS FALSE NEIGHBOUR: 'it returns false'. Refute it at one input. -/
def permutationComposesWrong : ChangeSpec := { name := "permutationComposes", fn := fun _ => fun
  | [d1, d2, d3] => { results := [.lit (.bool false)], args := [d1, d2, d3] }
  | _ => none }
def PermutationComposesWrongFalsely : Prop := permutationComposesRow.holds Tryd.pinned (OpenSpec.ofChange permutationComposesWrong)

/-- 'roundtablelaw02.PermutationActs': WHATEVER THE INPUT: true; the input reads as it did. -/
def permutationActsSpec : ChangeSpec := { name := "permutationActs", fn := fun _ => fun
  | [d1, d2, d3] => { results := [.lit (.bool true)], args := [d1, d2, d3] }
  | _ => none }
def permutationActsRow : OpenClaim := { program := "ytgppdbiimlbpjaadoor", sum := "4f6f4f166eead4ec7eec89d3aa66e752f75cb84fac3187f08a61e832e4125dae", func := "roundtable/roundtablelaw02.PermutationActs", spec := "permutationActs", unfollowed := true, recurses := true, named := ["internal/strconv.uint64pow10", "math/bits.deBruijn32tab", "math/bits.deBruijn64tab"], plainKeys := false, apart := false, laid := [("math/bits.deBruijn32tab", laid_math_bits_deBruijn32tab), ("math/bits.deBruijn64tab", laid_math_bits_deBruijn64tab), ("internal/strconv.uint64pow10", laid_internal_strconv_uint64pow10)] }
def PermutationActsSaid : Prop := permutationActsRow.holds Tryd.pinned (OpenSpec.ofChange permutationActsSpec)

/-- ITS FALSE NEIGHBOUR: 'it returns false'. Refute it at one input. -/
def permutationActsWrong : ChangeSpec := { name := "permutationActs", fn := fun _ => fun
  | [d1, d2, d3] => { results := [.lit (.bool false)], args := [d1, d2, d3] }
  | _ => none }
def PermutationActsWrongFalsely : Prop := permutationActsRow.holds Tryd.pinned (OpenSpec.ofChange permutationActsWrong)

/-- 'roundtablelaw02.PermutationGenerates': WHATEVER THE INPUT: true; the input reads as it did. -/
def permutationGeneratesSpec : ChangeSpec := { name := "permutationGenerates", fn := fun _ => fun
  | [d1, d2] => { results := [.lit (.bool true)], args := [d1, d2] }
  | _ => none }
def permutationGeneratesRow : OpenClaim := { program := "ytgppdbiimlbpjaadoor", sum := "4f6f4f166eead4ec7eec89d3aa66e752f75cb84fac3187f08a61e832e4125dae", func := "roundtable/roundtablelaw02.PermutationGenerates", spec := "permutationGenerates", unfollowed := true, recurses := true, named := ["internal/strconv.uint64pow10", "math/bits.deBruijn32tab", "math/bits.deBruijn64tab"], plainKeys := false, apart := false, laid := [("math/bits.deBruijn32tab", laid_math_bits_deBruijn32tab), ("math/bits.deBruijn64tab", laid_math_bits_deBruijn64tab), ("internal/strconv.uint64pow10", laid_internal_strconv_uint64pow10)] }
def PermutationGeneratesSaid : Prop := permutationGeneratesRow.holds Tryd.pinned (OpenSpec.ofChange permutationGeneratesSpec)

/-- ITS FALSE NEIGHBOUR: 'it returns false'. Refute it at one input. -/
def permutationGeneratesWrong : ChangeSpec := { name := "permutationGenerates", fn := fun _ => fun
  | [d1, d2] => { results := [.lit (.bool false)], args := [d1, d2] }
  | _ => none }
def PermutationGeneratesWrongFalsely : Prop := permutationGeneratesRow.holds Tryd.pinned (OpenSpec.ofChange permutationGeneratesWrong)

/-- 'roundtablelaw02.PermutationTexts': WHATEVER THE INPUT: true; the input reads as it did. -/
def permutationTextsSpec : ChangeSpec := { name := "permutationTexts", fn := fun _ => fun
  | [d1, d2, d3] => { results := [.lit (.bool true)], args := [d1, d2, d3] }
  | _ => none }
def permutationTextsRow : OpenClaim := { program := "ytgppdbiimlbpjaadoor", sum := "4f6f4f166eead4ec7eec89d3aa66e752f75cb84fac3187f08a61e832e4125dae", func := "roundtable/roundtablelaw02.PermutationTexts", spec := "permutationTexts", unfollowed := true, recurses := true, named := ["internal/strconv.uint64pow10", "math/bits.deBruijn32tab", "math/bits.deBruijn64tab"], plainKeys := false, apart := false, laid := [("math/bits.deBruijn32tab", laid_math_bits_deBruijn32tab), ("math/bits.deBruijn64tab", laid_math_bits_deBruijn64tab), ("internal/strconv.uint64pow10", laid_internal_strconv_uint64pow10)] }
def PermutationTextsSaid : Prop := permutationTextsRow.holds Tryd.pinned (OpenSpec.ofChange permutationTextsSpec)

/-- ITS FALSE NEIGHBOUR: 'it returns false'. Refute it at one input. -/
def permutationTextsWrong : ChangeSpec := { name := "permutationTexts", fn := fun _ => fun
  | [d1, d2, d3] => { results := [.lit (.bool false)], args := [d1, d2, d3] }
  | _ => none }
def PermutationTextsWrongFalsely : Prop := permutationTextsRow.holds Tryd.pinned (OpenSpec.ofChange permutationTextsWrong)

/-- 'roundtablelaw02.PermutationGroup': WHATEVER THE INPUT: true; the input reads as it did. -/
def permutationGroupSpec : ChangeSpec := { name := "permutationGroup", fn := fun _ => fun
  | [d1, d2, d3] => { results := [.lit (.bool true)], args := [d1, d2, d3] }
  | _ => none }
def permutationGroupRow : OpenClaim := { program := "ytgppdbiimlbpjaadoor", sum := "4f6f4f166eead4ec7eec89d3aa66e752f75cb84fac3187f08a61e832e4125dae", func := "roundtable/roundtablelaw02.PermutationGroup", spec := "permutationGroup", unfollowed := true, recurses := true, named := ["internal/strconv.uint64pow10", "math/bits.deBruijn32tab", "math/bits.deBruijn64tab"], plainKeys := false, apart := false, laid := [("math/bits.deBruijn32tab", laid_math_bits_deBruijn32tab), ("math/bits.deBruijn64tab", laid_math_bits_deBruijn64tab), ("internal/strconv.uint64pow10", laid_internal_strconv_uint64pow10)] }
def PermutationGroupSaid : Prop := permutationGroupRow.holds Tryd.pinned (OpenSpec.ofChange permutationGroupSpec)

/-- ITS FALSE NEIGHBOUR: 'it returns false'. Refute it at one input. -/
def permutationGroupWrong : ChangeSpec := { name := "permutationGroup", fn := fun _ => fun
  | [d1, d2, d3] => { results := [.lit (.bool false)], args := [d1, d2, d3] }
  | _ => none }
def PermutationGroupWrongFalsely : Prop := permutationGroupRow.holds Tryd.pinned (OpenSpec.ofChange permutationGroupWrong)

/-- 'roundtablelaw02.PermutationMoves': WHATEVER THE INPUT: true; the input reads as it did. -/
def permutationMovesSpec : ChangeSpec := { name := "permutationMoves", fn := fun _ => fun
  | [d1, d2, d3] => { results := [.lit (.bool true)], args := [d1, d2, d3] }
  | _ => none }
def permutationMovesRow : OpenClaim := { program := "ytgppdbiimlbpjaadoor", sum := "4f6f4f166eead4ec7eec89d3aa66e752f75cb84fac3187f08a61e832e4125dae", func := "roundtable/roundtablelaw02.PermutationMoves", spec := "permutationMoves", unfollowed := true, recurses := true, named := ["internal/strconv.uint64pow10", "math/bits.deBruijn32tab", "math/bits.deBruijn64tab"], plainKeys := false, apart := false, laid := [("math/bits.deBruijn32tab", laid_math_bits_deBruijn32tab), ("math/bits.deBruijn64tab", laid_math_bits_deBruijn64tab), ("internal/strconv.uint64pow10", laid_internal_strconv_uint64pow10)] }
def PermutationMovesSaid : Prop := permutationMovesRow.holds Tryd.pinned (OpenSpec.ofChange permutationMovesSpec)

/-- ITS FALSE NEIGHBOUR: 'it returns false'. Refute it at one input. -/
def permutationMovesWrong : ChangeSpec := { name := "permutationMoves", fn := fun _ => fun
  | [d1, d2, d3] => { results := [.lit (.bool false)], args := [d1, d2, d3] }
  | _ => none }
def PermutationMovesWrongFalsely : Prop := permutationMovesRow.holds Tryd.pinned (OpenSpec.ofChange permutationMovesWrong)

/-- 'roundtablelaw02.PermutationCloses': WHATEVER THE INPUT: true; the input reads as it did. -/
def permutationClosesSpec : ChangeSpec := { name := "permutationCloses", fn := fun _ => fun
  | [d1, d2] => { results := [.lit (.bool true)], args := [d1, d2] }
  | _ => none }
def permutationClosesRow : OpenClaim := { program := "ytgppdbiimlbpjaadoor", sum := "4f6f4f166eead4ec7eec89d3aa66e752f75cb84fac3187f08a61e832e4125dae", func := "roundtable/roundtablelaw02.PermutationCloses", spec := "permutationCloses", unfollowed := true, recurses := true, named := ["internal/strconv.uint64pow10", "math/bits.deBruijn32tab", "math/bits.deBruijn64tab"], plainKeys := false, apart := false, laid := [("math/bits.deBruijn32tab", laid_math_bits_deBruijn32tab), ("math/bits.deBruijn64tab", laid_math_bits_deBruijn64tab), ("internal/strconv.uint64pow10", laid_internal_strconv_uint64pow10)] }
def PermutationClosesSaid : Prop := permutationClosesRow.holds Tryd.pinned (OpenSpec.ofChange permutationClosesSpec)

/-- ITS FALSE NEIGHBOUR: 'it returns false'. Refute it at one input. -/
def permutationClosesWrong : ChangeSpec := { name := "permutationCloses", fn := fun _ => fun
  | [d1, d2] => { results := [.lit (.bool false)], args := [d1, d2] }
  | _ => none }
def PermutationClosesWrongFalsely : Prop := permutationClosesRow.holds Tryd.pinned (OpenSpec.ofChange permutationClosesWrong)

/-- 'roundtablelaw02.PermutationReads': WHATEVER THE INPUT: true; the input reads as it did. -/
def permutationReadsSpec : ChangeSpec := { name := "permutationReads", fn := fun _ => fun
  | [d] => { results := [.lit (.bool true)], args := [d] }
  | _ => none }
def permutationReadsRow : OpenClaim := { program := "ytgppdbiimlbpjaadoor", sum := "4f6f4f166eead4ec7eec89d3aa66e752f75cb84fac3187f08a61e832e4125dae", func := "roundtable/roundtablelaw02.PermutationReads", spec := "permutationReads", unfollowed := true, recurses := true, named := ["internal/strconv.uint64pow10", "math/bits.deBruijn32tab", "math/bits.deBruijn64tab"], plainKeys := false, apart := false, laid := [("math/bits.deBruijn32tab", laid_math_bits_deBruijn32tab), ("math/bits.deBruijn64tab", laid_math_bits_deBruijn64tab), ("internal/strconv.uint64pow10", laid_internal_strconv_uint64pow10)] }
def PermutationReadsSaid : Prop := permutationReadsRow.holds Tryd.pinned (OpenSpec.ofChange permutationReadsSpec)

/-- ITS FALSE NEIGHBOUR: 'it returns false'. Refute it at one input. -/
def permutationReadsWrong : ChangeSpec := { name := "permutationReads", fn := fun _ => fun
  | [d] => { results := [.lit (.bool false)], args := [d] }
  | _ => none }
def PermutationReadsWrongFalsely : Prop := permutationReadsRow.holds Tryd.pinned (OpenSpec.ofChange permutationReadsWrong)

/- THE SECOND FORM. 'bulk': how many values and letters a reading holds, each counted each time it is reached (what is shared counts as often as it is met; a slice's spare places count too). A statement '..UptoSaid' is the law's where the arguments, and the package variables that the reading takes, are together of bulk at most 1048576: NARROWER than '..Said'. Prove '..Said' where nothing that the law and all that it calls make is longer than what came in: it says more and counts as full. Else prove '..UptoSaid'. A law counts once. -/
mutual
def uptoBulk {H : Type} : DataW H → Nat
  | .lit (.string bytes) => bytes.length + 1
  | .lit _ => 1
  | .nil => 1
  | .ptr d => uptoBulk d + 1
  | .slice elems spare => uptoBulkAll elems + uptoBulkAll spare + 1
  | .agg parts => uptoBulkAll parts + 1
  | .iface _ d => uptoBulk d + 1
  | .map entries => uptoBulkEntries entries + 1
  | .held _ => 1
def uptoBulkAll {H : Type} : List (DataW H) → Nat
  | [] => 0
  | d :: r => uptoBulk d + uptoBulkAll r
def uptoBulkEntries {H : Type} : List (Lit × DataW H) → Nat
  | [] => 0
  | x :: r => uptoBulkEntry x + uptoBulkEntries r
def uptoBulkEntry {H : Type} : Lit × DataW H → Nat
  | (.string bytes, d) => bytes.length + uptoBulk d + 1
  | (_, d) => uptoBulk d + 1
 end
def uptoSmall : (H : Type) → List (DataW H) → Bool := fun _ ds => decide (uptoBulkAll ds ≤ 1048576)
def OpenSpec.upto (s : _root_.Go.ChangeSpec) : _root_.Go.OpenSpec := { _root_.Go.OpenSpec.ofChange s with cond := some uptoSmall }

/-- 'roundtablelaw02.PermutationChecks', WHERE WHAT IT READS IS OF BULK AT MOST 1048576: true; the input reads as it did. -/
def permutationChecksUptoRow : OpenClaim := { program := "ytgppdbiimlbpjaadoor", sum := "4f6f4f166eead4ec7eec89d3aa66e752f75cb84fac3187f08a61e832e4125dae", func := "roundtable/roundtablelaw02.PermutationChecks", spec := "permutationChecks", unfollowed := true, recurses := true, named := ["internal/strconv.uint64pow10", "math/bits.deBruijn32tab", "math/bits.deBruijn64tab"], plainKeys := false, apart := false, laid := [("math/bits.deBruijn32tab", laid_math_bits_deBruijn32tab), ("math/bits.deBruijn64tab", laid_math_bits_deBruijn64tab), ("internal/strconv.uint64pow10", laid_internal_strconv_uint64pow10)], narrowed := true }
def PermutationChecksUptoSaid : Prop := permutationChecksUptoRow.holds Tryd.pinned (OpenSpec.upto permutationChecksSpec)

/-- 'roundtablelaw02.PermutationComposes', WHERE WHAT IT READS IS OF BULK AT MOST 1048576: true; the input reads as it did. -/
def permutationComposesUptoRow : OpenClaim := { program := "ytgppdbiimlbpjaadoor", sum := "4f6f4f166eead4ec7eec89d3aa66e752f75cb84fac3187f08a61e832e4125dae", func := "roundtable/roundtablelaw02.PermutationComposes", spec := "permutationComposes", unfollowed := true, recurses := true, named := ["internal/strconv.uint64pow10", "math/bits.deBruijn32tab", "math/bits.deBruijn64tab"], plainKeys := false, apart := false, laid := [("math/bits.deBruijn32tab", laid_math_bits_deBruijn32tab), ("math/bits.deBruijn64tab", laid_math_bits_deBruijn64tab), ("internal/strconv.uint64pow10", laid_internal_strconv_uint64pow10)], narrowed := true }
def PermutationComposesUptoSaid : Prop := permutationComposesUptoRow.holds Tryd.pinned (OpenSpec.upto permutationComposesSpec)

/-- 'roundtablelaw02.PermutationActs', WHERE WHAT IT READS IS OF BULK AT MOST 1048576: true; the input reads as it did. -/
def permutationActsUptoRow : OpenClaim := { program := "ytgppdbiimlbpjaadoor", sum := "4f6f4f166eead4ec7eec89d3aa66e752f75cb84fac3187f08a61e832e4125dae", func := "roundtable/roundtablelaw02.PermutationActs", spec := "permutationActs", unfollowed := true, recurses := true, named := ["internal/strconv.uint64pow10", "math/bits.deBruijn32tab", "math/bits.deBruijn64tab"], plainKeys := false, apart := false, laid := [("math/bits.deBruijn32tab", laid_math_bits_deBruijn32tab), ("math/bits.deBruijn64tab", laid_math_bits_deBruijn64tab), ("internal/strconv.uint64pow10", laid_internal_strconv_uint64pow10)], narrowed := true }
def PermutationActsUptoSaid : Prop := permutationActsUptoRow.holds Tryd.pinned (OpenSpec.upto permutationActsSpec)

/-- 'roundtablelaw02.PermutationGenerates', WHERE WHAT IT READS IS OF BULK AT MOST 1048576: true; the input reads as it did. -/
def permutationGeneratesUptoRow : OpenClaim := { program := "ytgppdbiimlbpjaadoor", sum := "4f6f4f166eead4ec7eec89d3aa66e752f75cb84fac3187f08a61e832e4125dae", func := "roundtable/roundtablelaw02.PermutationGenerates", spec := "permutationGenerates", unfollowed := true, recurses := true, named := ["internal/strconv.uint64pow10", "math/bits.deBruijn32tab", "math/bits.deBruijn64tab"], plainKeys := false, apart := false, laid := [("math/bits.deBruijn32tab", laid_math_bits_deBruijn32tab), ("math/bits.deBruijn64tab", laid_math_bits_deBruijn64tab), ("internal/strconv.uint64pow10", laid_internal_strconv_uint64pow10)], narrowed := true }
def PermutationGeneratesUptoSaid : Prop := permutationGeneratesUptoRow.holds Tryd.pinned (OpenSpec.upto permutationGeneratesSpec)

/-- 'roundtablelaw02.PermutationTexts', WHERE WHAT IT READS IS OF BULK AT MOST 1048576: true; the input reads as it did. -/
def permutationTextsUptoRow : OpenClaim := { program := "ytgppdbiimlbpjaadoor", sum := "4f6f4f166eead4ec7eec89d3aa66e752f75cb84fac3187f08a61e832e4125dae", func := "roundtable/roundtablelaw02.PermutationTexts", spec := "permutationTexts", unfollowed := true, recurses := true, named := ["internal/strconv.uint64pow10", "math/bits.deBruijn32tab", "math/bits.deBruijn64tab"], plainKeys := false, apart := false, laid := [("math/bits.deBruijn32tab", laid_math_bits_deBruijn32tab), ("math/bits.deBruijn64tab", laid_math_bits_deBruijn64tab), ("internal/strconv.uint64pow10", laid_internal_strconv_uint64pow10)], narrowed := true }
def PermutationTextsUptoSaid : Prop := permutationTextsUptoRow.holds Tryd.pinned (OpenSpec.upto permutationTextsSpec)

/-- 'roundtablelaw02.PermutationGroup', WHERE WHAT IT READS IS OF BULK AT MOST 1048576: true; the input reads as it did. -/
def permutationGroupUptoRow : OpenClaim := { program := "ytgppdbiimlbpjaadoor", sum := "4f6f4f166eead4ec7eec89d3aa66e752f75cb84fac3187f08a61e832e4125dae", func := "roundtable/roundtablelaw02.PermutationGroup", spec := "permutationGroup", unfollowed := true, recurses := true, named := ["internal/strconv.uint64pow10", "math/bits.deBruijn32tab", "math/bits.deBruijn64tab"], plainKeys := false, apart := false, laid := [("math/bits.deBruijn32tab", laid_math_bits_deBruijn32tab), ("math/bits.deBruijn64tab", laid_math_bits_deBruijn64tab), ("internal/strconv.uint64pow10", laid_internal_strconv_uint64pow10)], narrowed := true }
def PermutationGroupUptoSaid : Prop := permutationGroupUptoRow.holds Tryd.pinned (OpenSpec.upto permutationGroupSpec)

/-- 'roundtablelaw02.PermutationMoves', WHERE WHAT IT READS IS OF BULK AT MOST 1048576: true; the input reads as it did. -/
def permutationMovesUptoRow : OpenClaim := { program := "ytgppdbiimlbpjaadoor", sum := "4f6f4f166eead4ec7eec89d3aa66e752f75cb84fac3187f08a61e832e4125dae", func := "roundtable/roundtablelaw02.PermutationMoves", spec := "permutationMoves", unfollowed := true, recurses := true, named := ["internal/strconv.uint64pow10", "math/bits.deBruijn32tab", "math/bits.deBruijn64tab"], plainKeys := false, apart := false, laid := [("math/bits.deBruijn32tab", laid_math_bits_deBruijn32tab), ("math/bits.deBruijn64tab", laid_math_bits_deBruijn64tab), ("internal/strconv.uint64pow10", laid_internal_strconv_uint64pow10)], narrowed := true }
def PermutationMovesUptoSaid : Prop := permutationMovesUptoRow.holds Tryd.pinned (OpenSpec.upto permutationMovesSpec)

/-- 'roundtablelaw02.PermutationCloses', WHERE WHAT IT READS IS OF BULK AT MOST 1048576: true; the input reads as it did. -/
def permutationClosesUptoRow : OpenClaim := { program := "ytgppdbiimlbpjaadoor", sum := "4f6f4f166eead4ec7eec89d3aa66e752f75cb84fac3187f08a61e832e4125dae", func := "roundtable/roundtablelaw02.PermutationCloses", spec := "permutationCloses", unfollowed := true, recurses := true, named := ["internal/strconv.uint64pow10", "math/bits.deBruijn32tab", "math/bits.deBruijn64tab"], plainKeys := false, apart := false, laid := [("math/bits.deBruijn32tab", laid_math_bits_deBruijn32tab), ("math/bits.deBruijn64tab", laid_math_bits_deBruijn64tab), ("internal/strconv.uint64pow10", laid_internal_strconv_uint64pow10)], narrowed := true }
def PermutationClosesUptoSaid : Prop := permutationClosesUptoRow.holds Tryd.pinned (OpenSpec.upto permutationClosesSpec)

/-- 'roundtablelaw02.PermutationReads', WHERE WHAT IT READS IS OF BULK AT MOST 1048576: true; the input reads as it did. -/
def permutationReadsUptoRow : OpenClaim := { program := "ytgppdbiimlbpjaadoor", sum := "4f6f4f166eead4ec7eec89d3aa66e752f75cb84fac3187f08a61e832e4125dae", func := "roundtable/roundtablelaw02.PermutationReads", spec := "permutationReads", unfollowed := true, recurses := true, named := ["internal/strconv.uint64pow10", "math/bits.deBruijn32tab", "math/bits.deBruijn64tab"], plainKeys := false, apart := false, laid := [("math/bits.deBruijn32tab", laid_math_bits_deBruijn32tab), ("math/bits.deBruijn64tab", laid_math_bits_deBruijn64tab), ("internal/strconv.uint64pow10", laid_internal_strconv_uint64pow10)], narrowed := true }
def PermutationReadsUptoSaid : Prop := permutationReadsUptoRow.holds Tryd.pinned (OpenSpec.upto permutationReadsSpec)

end Rows
end Go.Proofs.YtgppdbiimlbpjaaDoor
