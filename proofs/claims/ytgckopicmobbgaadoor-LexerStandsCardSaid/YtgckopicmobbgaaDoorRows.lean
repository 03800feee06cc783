/-
  NARROWER THAN 'FOR EVERY INPUT', by the rows' own cells (each row's printed sentence says how): LexerScans: laid · LexerJoins: laid · LexerNames: laid · LexerPlaces: laid · LexerStands: laid · LexerReturns: laid · LexerLines: laid · LexerLocates: laid.
  DERIVED. THE GIVEN ROWS OF THIS SEAT. 8 by the template 'for every input the law returns true; each argument reads behind the call as it read before'; 0 by the template 'total and deterministic' (their statements: YtgckopicmobbgaaDoorTotals.lean).
  GIVEN WITH THE SEED: the statements are not yours to turn. If you find one false, say at which input.
  Laid BY PROGRAM, IN A SANDBOX (cutbox-rows.mjs): the forced cells as the released guide's own fill.sh prints them over the translation 6af53656d5baceed… (all of the seat's roots in one cut). By AI agents, Wed Nov 11 2026. No macro, syntax, notation, axiom, sorry.
-/
import Derived.Test.YtgckopicmobbgaaDoorChecked
import GoSem.PinnedTables
import GoSem.Claim
import GoSem.ClaimJoined
import GoSem.ClaimMapViews
import Derived.JoinedTies
import Derived.KernelRfl
namespace Go.Proofs.YtgckopicmobbgaaDoor
/- THE CELL 'sum', in the pinned program and in every row, IS THE sha256 OF THE DUMP (.gsa) THAT YtgckopicmobbgaaDoorProg.lean LOADS. Nothing in Lean hashes anything: it is a label: what it is worth is what the hold of that sum in a sandbox is worth. -/
noncomputable def Tryd.pinned : Pinned := { name := "ytgckopicmobbgaadoor", sum := "6af53656d5baceed0788b756fe666fec9cbd2ac206f516cc3d2a04ea6260e047", checked := Tryd.checked }
namespace Rows
def none {H : Type} : Left H := { results := [], args := [] }

/- WHAT THE LISTED PACKAGE-LEVEL VARIABLES READ AS WHEN THE CALL BEGINS. Each datum BY PROGRAM (the guide's laid-datum.mjs) off the statement by which the dump's own 'gosem.cut.vars' lays the variable. In a bare row this is a premise. The card (YtgckopicmobbgaaDoorCards.lean) ties it to the program's text. -/
def laid_roundtable_lexer_signs {H : Type} : DataW H := .slice [.lit (.string [60, 61]), .lit (.string [33, 61]), .lit (.string [59]), .lit (.string [44]), .lit (.string [58]), .lit (.string [40]), .lit (.string [41]), .lit (.string [123]), .lit (.string [125]), .lit (.string [43]), .lit (.string [45]), .lit (.string [61]), .lit (.string [60])] []
def laid_roundtable_lexer_reserved {H : Type} : DataW H := .slice [.lit (.string [67]), .lit (.string [68]), .lit (.string [69]), .lit (.string [75]), .lit (.string [97, 100, 118, 101, 114, 115, 97, 114, 121]), .lit (.string [97, 108, 108]), .lit (.string [97, 108, 108, 111, 119]), .lit (.string [97, 108, 119, 97, 121, 115]), .lit (.string [97, 110, 100]), .lit (.string [97, 116]), .lit (.string [99, 97, 108, 109]), .lit (.string [99, 111, 117, 110, 116]), .lit (.string [99, 114, 97, 115, 104]), .lit (.string [100, 101, 99, 105, 100, 101, 100]), .lit (.string [101, 118, 101, 110, 116, 117, 97, 108, 108, 121]), .lit (.string [101, 118, 101, 114, 121, 111, 110, 101]), .lit (.string [102, 97, 117, 108, 116, 121]), .lit (.string [102, 111, 114]), .lit (.string [102, 111, 114, 109, 117, 108, 97]), .lit (.string [103, 105, 118, 101, 110]), .lit (.string [103, 114, 97, 112, 104, 115]), .lit (.string [104, 101, 97, 114, 100]), .lit (.string [104, 101, 97, 114, 115]), .lit (.string [105, 110]), .lit (.string [105, 110, 112, 117, 116]), .lit (.string [105, 110, 112, 117, 116, 115]), .lit (.string [110, 101, 120, 116]), .lit (.string [110, 111, 116]), .lit (.string [111, 109, 105, 116]), .lit (.string [111, 114]), .lit (.string [111, 117, 116]), .lit (.string [111, 117, 116, 112, 117, 116, 115]), .lit (.string [112, 97, 114, 116, 105, 116, 105, 111, 110]), .lit (.string [112, 114, 111, 98, 108, 101, 109]), .lit (.string [112, 114, 111, 99, 101, 115, 115, 101, 115]), .lit (.string [114, 101, 99, 101, 105, 118, 101]), .lit (.string [114, 111, 117, 110, 100, 115]), .lit (.string [115, 101, 110, 100]), .lit (.string [115, 110, 97, 112, 115, 104, 111, 116]), .lit (.string [115, 111, 109, 101]), .lit (.string [116, 97, 115, 107]), .lit (.string [116, 104, 101, 110]), .lit (.string [116, 114, 117, 101]), .lit (.string [117, 110, 100, 101, 114]), .lit (.string [117, 110, 116, 105, 108]), .lit (.string [119, 104, 101, 114, 101])] []
def laid_unicode_utf8_acceptRanges {H : Type} : DataW H := .agg [.agg [.lit (.int .u8 128), .lit (.int .u8 191)], .agg [.lit (.int .u8 160), .lit (.int .u8 191)], .agg [.lit (.int .u8 128), .lit (.int .u8 159)], .agg [.lit (.int .u8 144), .lit (.int .u8 191)], .agg [.lit (.int .u8 128), .lit (.int .u8 143)], .agg [.lit (.int .u8 0), .lit (.int .u8 0)], .agg [.lit (.int .u8 0), .lit (.int .u8 0)], .agg [.lit (.int .u8 0), .lit (.int .u8 0)], .agg [.lit (.int .u8 0), .lit (.int .u8 0)], .agg [.lit (.int .u8 0), .lit (.int .u8 0)], .agg [.lit (.int .u8 0), .lit (.int .u8 0)], .agg [.lit (.int .u8 0), .lit (.int .u8 0)], .agg [.lit (.int .u8 0), .lit (.int .u8 0)], .agg [.lit (.int .u8 0), .lit (.int .u8 0)], .agg [.lit (.int .u8 0), .lit (.int .u8 0)], .agg [.lit (.int .u8 0), .lit (.int .u8 0)]]
/-- One of Go's own tables, pinned by name: the form's constant. -/
def laid_unicode_utf8_first : DataW Unit := Go.Pinned.utf8First

/-- 'roundtablelaw06.LexerScans': WHATEVER THE INPUT: true; the input reads as it did. -/
def lexerScansSpec : ChangeSpec := { name := "lexerScans", fn := fun _ => fun
  | [d] => { results := [.lit (.bool true)], args := [d] }
  | _ => none }
def lexerScansRow : OpenClaim := { program := "ytgckopicmobbgaadoor", sum := "6af53656d5baceed0788b756fe666fec9cbd2ac206f516cc3d2a04ea6260e047", func := "roundtable/roundtablelaw06.LexerScans", spec := "lexerScans", inPlace := ["internal/bytealg.IndexByteString", "internal/abi.NoEscape", "internal/bytealg.CountString", "internal/bytealg.IndexString"], unfollowed := true, recurses := true, named := ["roundtable/lexer.signs", "internal/bytealg.MaxLen", "roundtable/lexer.reserved"], apart := false, laid := [("roundtable/lexer.signs", laid_roundtable_lexer_signs), ("roundtable/lexer.reserved", laid_roundtable_lexer_reserved)] }
def LexerScansSaid : Prop := lexerScansRow.holds Tryd.pinned (OpenSpec.ofChange lexerScansSpec)

/-- ITS FALSE NEIGHBOUR: 'it returns false'. Refute it at one input. -/
def lexerScansWrong : ChangeSpec := { name := "lexerScans", fn := fun _ => fun
  | [d] => { results := [.lit (.bool false)], args := [d] }
  | _ => none }
def LexerScansWrongFalsely : Prop := lexerScansRow.holds Tryd.pinned (OpenSpec.ofChange lexerScansWrong)

/-- 'roundtablelaw06.LexerJoins': WHATEVER THE INPUT: true; the input reads as it did. -/
def lexerJoinsSpec : ChangeSpec := { name := "lexerJoins", fn := fun _ => fun
  | [d] => { results := [.lit (.bool true)], args := [d] }
  | _ => none }
def lexerJoinsRow : OpenClaim := { program := "ytgckopicmobbgaadoor", sum := "6af53656d5baceed0788b756fe666fec9cbd2ac206f516cc3d2a04ea6260e047", func := "roundtable/roundtablelaw06.LexerJoins", spec := "lexerJoins", inPlace := ["internal/bytealg.IndexByteString", "internal/abi.NoEscape", "internal/bytealg.CountString", "internal/bytealg.IndexString"], unfollowed := true, recurses := true, named := ["roundtable/lexer.signs", "internal/bytealg.MaxLen", "roundtable/lexer.reserved"], apart := false, laid := [("roundtable/lexer.signs", laid_roundtable_lexer_signs), ("roundtable/lexer.reserved", laid_roundtable_lexer_reserved)] }
def LexerJoinsSaid : Prop := lexerJoinsRow.holds Tryd.pinned (OpenSpec.ofChange lexerJoinsSpec)

/-- ITS FALSE NEIGHBOUR: 'it returns false'. Refute it at one input. -/
def lexerJoinsWrong : ChangeSpec := { name := "lexerJoins", fn := fun _ => fun
  | [d] => { results := [.lit (.bool false)], args := [d] }
  | _ => none }
def LexerJoinsWrongFalsely : Prop := lexerJoinsRow.holds Tryd.pinned (OpenSpec.ofChange lexerJoinsWrong)

/-- 'roundtablelaw06.LexerNames': WHATEVER THE INPUT: true; the input reads as it did. -/
def lexerNamesSpec : ChangeSpec := { name := "lexerNames", fn := fun _ => fun
  | [d] => { results := [.lit (.bool true)], args := [d] }
  | _ => none }
def lexerNamesRow : OpenClaim := { program := "ytgckopicmobbgaadoor", sum := "6af53656d5baceed0788b756fe666fec9cbd2ac206f516cc3d2a04ea6260e047", func := "roundtable/roundtablelaw06.LexerNames", spec := "lexerNames", inPlace := ["internal/bytealg.IndexByteString", "internal/abi.NoEscape", "internal/bytealg.CountString", "internal/bytealg.IndexString"], unfollowed := true, recurses := true, named := ["roundtable/lexer.signs", "internal/bytealg.MaxLen", "roundtable/lexer.reserved"], apart := false, laid := [("roundtable/lexer.signs", laid_roundtable_lexer_signs), ("roundtable/lexer.reserved", laid_roundtable_lexer_reserved)] }
def LexerNamesSaid : Prop := lexerNamesRow.holds Tryd.pinned (OpenSpec.ofChange lexerNamesSpec)

/-- ITS FALSE NEIGHBOUR: 'it returns false'. Refute it at one input. -/
def lexerNamesWrong : ChangeSpec := { name := "lexerNames", fn := fun _ => fun
  | [d] => { results := [.lit (.bool false)], args := [d] }
  | _ => none }
def LexerNamesWrongFalsely : Prop := lexerNamesRow.holds Tryd.pinned (OpenSpec.ofChange lexerNamesWrong)

/-- 'roundtablelaw06.LexerPlaces': WHATEVER THE INPUT: true; the input reads as it did. -/
def lexerPlacesSpec : ChangeSpec := { name := "lexerPlaces", fn := fun _ => fun
  | [d1, d2, d3] => { results := [.lit (.bool true)], args := [d1, d2, d3] }
  | _ => none }
def lexerPlacesRow : OpenClaim := { program := "ytgckopicmobbgaadoor", sum := "6af53656d5baceed0788b756fe666fec9cbd2ac206f516cc3d2a04ea6260e047", func := "roundtable/roundtablelaw06.LexerPlaces", spec := "lexerPlaces", inPlace := ["internal/bytealg.IndexByteString", "internal/abi.NoEscape", "internal/bytealg.CountString", "internal/bytealg.IndexString"], unfollowed := true, recurses := true, named := ["roundtable/lexer.signs", "internal/bytealg.MaxLen", "roundtable/lexer.reserved", "unicode/utf8.first", "unicode/utf8.acceptRanges"], apart := false, laid := [("unicode/utf8.acceptRanges", laid_unicode_utf8_acceptRanges), ("roundtable/lexer.signs", laid_roundtable_lexer_signs), ("roundtable/lexer.reserved", laid_roundtable_lexer_reserved), ("unicode/utf8.first", laid_unicode_utf8_first)] }
def LexerPlacesSaid : Prop := lexerPlacesRow.holds Tryd.pinned (OpenSpec.ofChange lexerPlacesSpec)

/-- ITS FALSE NEIGHBOUR: 'it returns false'. Refute it at one input. -/
def lexerPlacesWrong : ChangeSpec := { name := "lexerPlaces", fn := fun _ => fun
  | [d1, d2, d3] => { results := [.lit (.bool false)], args := [d1, d2, d3] }
  | _ => none }
def LexerPlacesWrongFalsely : Prop := lexerPlacesRow.holds Tryd.pinned (OpenSpec.ofChange lexerPlacesWrong)

/-- 'roundtablelaw06.LexerStands': WHATEVER THE INPUT: true; the input reads as it did. -/
def lexerStandsSpec : ChangeSpec := { name := "lexerStands", fn := fun _ => fun
  | [d] => { results := [.lit (.bool true)], args := [d] }
  | _ => none }
def lexerStandsRow : OpenClaim := { program := "ytgckopicmobbgaadoor", sum := "6af53656d5baceed0788b756fe666fec9cbd2ac206f516cc3d2a04ea6260e047", func := "roundtable/roundtablelaw06.LexerStands", spec := "lexerStands", inPlace := ["internal/bytealg.IndexByteString", "internal/abi.NoEscape", "internal/bytealg.CountString", "internal/bytealg.IndexString"], unfollowed := true, recurses := true, named := ["roundtable/lexer.signs", "internal/bytealg.MaxLen", "roundtable/lexer.reserved"], apart := false, laid := [("roundtable/lexer.signs", laid_roundtable_lexer_signs), ("roundtable/lexer.reserved", laid_roundtable_lexer_reserved)] }
def LexerStandsSaid : Prop := lexerStandsRow.holds Tryd.pinned (OpenSpec.ofChange lexerStandsSpec)

/-- ITS FALSE NEIGHBOUR: 'it returns false'. Refute it at one input. -/
def lexerStandsWrong : ChangeSpec := { name := "lexerStands", fn := fun _ => fun
  | [d] => { results := [.lit (.bool false)], args := [d] }
  | _ => none }
def LexerStandsWrongFalsely : Prop := lexerStandsRow.holds Tryd.pinned (OpenSpec.ofChange lexerStandsWrong)

/-- 'roundtablelaw06.LexerReturns': WHATEVER THE INPUT: true; the input reads as it did. -/
def lexerReturnsSpec : ChangeSpec := { name := "lexerReturns", fn := fun _ => fun
  | [d] => { results := [.lit (.bool true)], args := [d] }
  | _ => none }
def lexerReturnsRow : OpenClaim := { program := "ytgckopicmobbgaadoor", sum := "6af53656d5baceed0788b756fe666fec9cbd2ac206f516cc3d2a04ea6260e047", func := "roundtable/roundtablelaw06.LexerReturns", spec := "lexerReturns", inPlace := ["internal/bytealg.IndexByteString", "internal/abi.NoEscape", "internal/bytealg.CountString", "internal/bytealg.IndexString"], unfollowed := true, recurses := true, named := ["roundtable/lexer.signs", "internal/bytealg.MaxLen", "roundtable/lexer.reserved"], apart := false, laid := [("roundtable/lexer.signs", laid_roundtable_lexer_signs), ("roundtable/lexer.reserved", laid_roundtable_lexer_reserved)] }
def LexerReturnsSaid : Prop := lexerReturnsRow.holds Tryd.pinned (OpenSpec.ofChange lexerReturnsSpec)

/-- ITS FALSE NEIGHBOUR: 'it returns false'. Refute it at one input. -/
def lexerReturnsWrong : ChangeSpec := { name := "lexerReturns", fn := fun _ => fun
  | [d] => { results := [.lit (.bool false)], args := [d] }
  | _ => none }
def LexerReturnsWrongFalsely : Prop := lexerReturnsRow.holds Tryd.pinned (OpenSpec.ofChange lexerReturnsWrong)

/-- 'roundtablelaw06.LexerLines': WHATEVER THE INPUT: true; the input reads as it did. -/
def lexerLinesSpec : ChangeSpec := { name := "lexerLines", fn := fun _ => fun
  | [d1, d2] => { results := [.lit (.bool true)], args := [d1, d2] }
  | _ => none }
def lexerLinesRow : OpenClaim := { program := "ytgckopicmobbgaadoor", sum := "6af53656d5baceed0788b756fe666fec9cbd2ac206f516cc3d2a04ea6260e047", func := "roundtable/roundtablelaw06.LexerLines", spec := "lexerLines", inPlace := ["internal/bytealg.IndexByteString", "internal/abi.NoEscape", "internal/bytealg.CountString", "internal/bytealg.IndexString"], unfollowed := true, recurses := true, named := ["roundtable/lexer.signs", "internal/bytealg.MaxLen", "roundtable/lexer.reserved"], apart := false, laid := [("roundtable/lexer.signs", laid_roundtable_lexer_signs), ("roundtable/lexer.reserved", laid_roundtable_lexer_reserved)] }
def LexerLinesSaid : Prop := lexerLinesRow.holds Tryd.pinned (OpenSpec.ofChange lexerLinesSpec)

/-- ITS FALSE NEIGHBOUR: 'it returns false'. Refute it at one input. -/
def lexerLinesWrong : ChangeSpec := { name := "lexerLines", fn := fun _ => fun
  | [d1, d2] => { results := [.lit (.bool false)], args := [d1, d2] }
  | _ => none }
def LexerLinesWrongFalsely : Prop := lexerLinesRow.holds Tryd.pinned (OpenSpec.ofChange lexerLinesWrong)

/-- 'roundtablelaw06.LexerLocates': WHATEVER THE INPUT: true; the input reads as it did. -/
def lexerLocatesSpec : ChangeSpec := { name := "lexerLocates", fn := fun _ => fun
  | [d1, d2] => { results := [.lit (.bool true)], args := [d1, d2] }
  | _ => none }
def lexerLocatesRow : OpenClaim := { program := "ytgckopicmobbgaadoor", sum := "6af53656d5baceed0788b756fe666fec9cbd2ac206f516cc3d2a04ea6260e047", func := "roundtable/roundtablelaw06.LexerLocates", spec := "lexerLocates", inPlace := ["internal/bytealg.IndexByteString", "internal/abi.NoEscape", "internal/bytealg.CountString", "internal/bytealg.IndexString"], unfollowed := true, recurses := true, named := ["roundtable/lexer.signs", "internal/bytealg.MaxLen", "roundtable/lexer.reserved", "unicode/utf8.first", "unicode/utf8.acceptRanges"], apart := false, laid := [("unicode/utf8.acceptRanges", laid_unicode_utf8_acceptRanges), ("roundtable/lexer.signs", laid_roundtable_lexer_signs), ("roundtable/lexer.reserved", laid_roundtable_lexer_reserved), ("unicode/utf8.first", laid_unicode_utf8_first)] }
def LexerLocatesSaid : Prop := lexerLocatesRow.holds Tryd.pinned (OpenSpec.ofChange lexerLocatesSpec)

/-- ITS FALSE NEIGHBOUR: 'it returns false'. Refute it at one input. -/
def lexerLocatesWrong : ChangeSpec := { name := "lexerLocates", fn := fun _ => fun
  | [d1, d2] => { results := [.lit (.bool false)], args := [d1, d2] }
  | _ => none }
def LexerLocatesWrongFalsely : Prop := lexerLocatesRow.holds Tryd.pinned (OpenSpec.ofChange lexerLocatesWrong)

/- THE SECOND FORM. 'bulk': how many values and letters a reading holds, each counted each time it is reached (what is shared counts as often as it is met; a slice's spare places count too). A statement '..UptoSaid' is the law's where the arguments, and the package variables that the reading takes, are together of bulk at most 1048576: NARROWER than '..Said'. Prove '..Said' where nothing that the law and all that it calls make is longer than what came in: it says more and counts as full. Else prove '..UptoSaid'. A law counts once. -/
mutual
def uptoBulk {H : Type} : DataW H → Nat
  | .lit (.string bytes) => bytes.length + 1
  | .lit _ => 1
  | .nil => 1
  | .ptr d => uptoBulk d + 1
  | .slice elems spare => uptoBulkAll elems + uptoBulkAll spare + 1
  | .agg parts => uptoBulkAll parts + 1
  | .iface _ d => uptoBulk d + 1
  | .map entries => uptoBulkEntries entries + 1
  | .held _ => 1
def uptoBulkAll {H : Type} : List (DataW H) → Nat
  | [] => 0
  | d :: r => uptoBulk d + uptoBulkAll r
def uptoBulkEntries {H : Type} : List (Lit × DataW H) → Nat
  | [] => 0
  | x :: r => uptoBulkEntry x + uptoBulkEntries r
def uptoBulkEntry {H : Type} : Lit × DataW H → Nat
  | (.string bytes, d) => bytes.length + uptoBulk d + 1
  | (_, d) => uptoBulk d + 1
 end
def uptoSmall : (H : Type) → List (DataW H) → Bool := fun _ ds => decide (uptoBulkAll ds ≤ 1048576)
def OpenSpec.upto (s : _root_.Go.ChangeSpec) : _root_.Go.OpenSpec := { _root_.Go.OpenSpec.ofChange s with cond := some uptoSmall }

/-- 'roundtablelaw06.LexerScans', WHERE WHAT IT READS IS OF BULK AT MOST 1048576: true; the input reads as it did. -/
def lexerScansUptoRow : OpenClaim := { program := "ytgckopicmobbgaadoor", sum := "6af53656d5baceed0788b756fe666fec9cbd2ac206f516cc3d2a04ea6260e047", func := "roundtable/roundtablelaw06.LexerScans", spec := "lexerScans", inPlace := ["internal/bytealg.IndexByteString", "internal/abi.NoEscape", "internal/bytealg.CountString", "internal/bytealg.IndexString"], unfollowed := true, recurses := true, named := ["roundtable/lexer.signs", "internal/bytealg.MaxLen", "roundtable/lexer.reserved"], apart := false, laid := [("roundtable/lexer.signs", laid_roundtable_lexer_signs), ("roundtable/lexer.reserved", laid_roundtable_lexer_reserved)], narrowed := true }
def LexerScansUptoSaid : Prop := lexerScansUptoRow.holds Tryd.pinned (OpenSpec.upto lexerScansSpec)

/-- 'roundtablelaw06.LexerJoins', WHERE WHAT IT READS IS OF BULK AT MOST 1048576: true; the input reads as it did. -/
def lexerJoinsUptoRow : OpenClaim := { program := "ytgckopicmobbgaadoor", sum := "6af53656d5baceed0788b756fe666fec9cbd2ac206f516cc3d2a04ea6260e047", func := "roundtable/roundtablelaw06.LexerJoins", spec := "lexerJoins", inPlace := ["internal/bytealg.IndexByteString", "internal/abi.NoEscape", "internal/bytealg.CountString", "internal/bytealg.IndexString"], unfollowed := true, recurses := true, named := ["roundtable/lexer.signs", "internal/bytealg.MaxLen", "roundtable/lexer.reserved"], apart := false, laid := [("roundtable/lexer.signs", laid_roundtable_lexer_signs), ("roundtable/lexer.reserved", laid_roundtable_lexer_reserved)], narrowed := true }
def LexerJoinsUptoSaid : Prop := lexerJoinsUptoRow.holds Tryd.pinned (OpenSpec.upto lexerJoinsSpec)

/-- 'roundtablelaw06.LexerNames', WHERE WHAT IT READS IS OF BULK AT MOST 1048576: true; the input reads as it did. -/
def lexerNamesUptoRow : OpenClaim := { program := "ytgckopicmobbgaadoor", sum := "6af53656d5baceed0788b756fe666fec9cbd2ac206f516cc3d2a04ea6260e047", func := "roundtable/roundtablelaw06.LexerNames", spec := "lexerNames", inPlace := ["internal/bytealg.IndexByteString", "internal/abi.NoEscape", "internal/bytealg.CountString", "internal/bytealg.IndexString"], unfollowed := true, recurses := true, named := ["roundtable/lexer.signs", "internal/bytealg.MaxLen", "roundtable/lexer.reserved"], apart := false, laid := [("roundtable/lexer.signs", laid_roundtable_lexer_signs), ("roundtable/lexer.reserved", laid_roundtable_lexer_reserved)], narrowed := true }
def LexerNamesUptoSaid : Prop := lexerNamesUptoRow.holds Tryd.pinned (OpenSpec.upto lexerNamesSpec)

/-- 'roundtablelaw06.LexerPlaces', WHERE WHAT IT READS IS OF BULK AT MOST 1048576: true; the input reads as it did. -/
def lexerPlacesUptoRow : OpenClaim := { program := "ytgckopicmobbgaadoor", sum := "6af53656d5baceed0788b756fe666fec9cbd2ac206f516cc3d2a04ea6260e047", func := "roundtable/roundtablelaw06.LexerPlaces", spec := "lexerPlaces", inPlace := ["internal/bytealg.IndexByteString", "internal/abi.NoEscape", "internal/bytealg.CountString", "internal/bytealg.IndexString"], unfollowed := true, recurses := true, named := ["roundtable/lexer.signs", "internal/bytealg.MaxLen", "roundtable/lexer.reserved", "unicode/utf8.first", "unicode/utf8.acceptRanges"], apart := false, laid := [("unicode/utf8.acceptRanges", laid_unicode_utf8_acceptRanges), ("roundtable/lexer.signs", laid_roundtable_lexer_signs), ("roundtable/lexer.reserved", laid_roundtable_lexer_reserved), ("unicode/utf8.first", laid_unicode_utf8_first)], narrowed := true }
def LexerPlacesUptoSaid : Prop := lexerPlacesUptoRow.holds Tryd.pinned (OpenSpec.upto lexerPlacesSpec)

/-- 'roundtablelaw06.LexerStands', WHERE WHAT IT READS IS OF BULK AT MOST 1048576: true; the input reads as it did. -/
def lexerStandsUptoRow : OpenClaim := { program := "ytgckopicmobbgaadoor", sum := "6af53656d5baceed0788b756fe666fec9cbd2ac206f516cc3d2a04ea6260e047", func := "roundtable/roundtablelaw06.LexerStands", spec := "lexerStands", inPlace := ["internal/bytealg.IndexByteString", "internal/abi.NoEscape", "internal/bytealg.CountString", "internal/bytealg.IndexString"], unfollowed := true, recurses := true, named := ["roundtable/lexer.signs", "internal/bytealg.MaxLen", "roundtable/lexer.reserved"], apart := false, laid := [("roundtable/lexer.signs", laid_roundtable_lexer_signs), ("roundtable/lexer.reserved", laid_roundtable_lexer_reserved)], narrowed := true }
def LexerStandsUptoSaid : Prop := lexerStandsUptoRow.holds Tryd.pinned (OpenSpec.upto lexerStandsSpec)

/-- 'roundtablelaw06.LexerReturns', WHERE WHAT IT READS IS OF BULK AT MOST 1048576: true; the input reads as it did. -/
def lexerReturnsUptoRow : OpenClaim := { program := "ytgckopicmobbgaadoor", sum := "6af53656d5baceed0788b756fe666fec9cbd2ac206f516cc3d2a04ea6260e047", func := "roundtable/roundtablelaw06.LexerReturns", spec := "lexerReturns", inPlace := ["internal/bytealg.IndexByteString", "internal/abi.NoEscape", "internal/bytealg.CountString", "internal/bytealg.IndexString"], unfollowed := true, recurses := true, named := ["roundtable/lexer.signs", "internal/bytealg.MaxLen", "roundtable/lexer.reserved"], apart := false, laid := [("roundtable/lexer.signs", laid_roundtable_lexer_signs), ("roundtable/lexer.reserved", laid_roundtable_lexer_reserved)], narrowed := true }
def LexerReturnsUptoSaid : Prop := lexerReturnsUptoRow.holds Tryd.pinned (OpenSpec.upto lexerReturnsSpec)

/-- 'roundtablelaw06.LexerLines', WHERE WHAT IT READS IS OF BULK AT MOST 1048576: true; the input reads as it did. -/
def lexerLinesUptoRow : OpenClaim := { program := "ytgckopicmobbgaadoor", sum := "6af53656d5baceed0788b756fe666fec9cbd2ac206f516cc3d2a04ea6260e047", func := "roundtable/roundtablelaw06.LexerLines", spec := "lexerLines", inPlace := ["internal/bytealg.IndexByteString", "internal/abi.NoEscape", "internal/bytealg.CountString", "internal/bytealg.IndexString"], unfollowed := true, recurses := true, named := ["roundtable/lexer.signs", "internal/bytealg.MaxLen", "roundtable/lexer.reserved"], apart := false, laid := [("roundtable/lexer.signs", laid_roundtable_lexer_signs), ("roundtable/lexer.reserved", laid_roundtable_lexer_reserved)], narrowed := true }
def LexerLinesUptoSaid : Prop := lexerLinesUptoRow.holds Tryd.pinned (OpenSpec.upto lexerLinesSpec)

/-- 'roundtablelaw06.LexerLocates', WHERE WHAT IT READS IS OF BULK AT MOST 1048576: true; the input reads as it did. -/
def lexerLocatesUptoRow : OpenClaim := { program := "ytgckopicmobbgaadoor", sum := "6af53656d5baceed0788b756fe666fec9cbd2ac206f516cc3d2a04ea6260e047", func := "roundtable/roundtablelaw06.LexerLocates", spec := "lexerLocates", inPlace := ["internal/bytealg.IndexByteString", "internal/abi.NoEscape", "internal/bytealg.CountString", "internal/bytealg.IndexString"], unfollowed := true, recurses := true, named := ["roundtable/lexer.signs", "internal/bytealg.MaxLen", "roundtable/lexer.reserved", "unicode/utf8.first", "unicode/utf8.acceptRanges"], apart := false, laid := [("unicode/utf8.acceptRanges", laid_unicode_utf8_acceptRanges), ("roundtable/lexer.signs", laid_roundtable_lexer_signs), ("roundtable/lexer.reserved", laid_roundtable_lexer_reserved), ("unicode/utf8.first", laid_unicode_utf8_first)], narrowed := true }
def LexerLocatesUptoSaid : Prop := lexerLocatesUptoRow.holds Tryd.pinned (OpenSpec.upto lexerLocatesSpec)

end Rows
end Go.Proofs.YtgckopicmobbgaaDoor
