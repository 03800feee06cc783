/- The check ahead of a theorem on three graphs: true exactly if all are well-formed and have the same number of processes. -/
import Derived.Test.YtacnhklhimogkaaDoorGsA
import Derived.Test.YtacnhklhimogkaaDoorGrB
import Derived.Test.YtacnhklhimogkaaDoorGrC
import Derived.Test.YtacnhklhimogkaaDoorGrD
import Derived.Test.YtacnhklhimogkaaDoorGrE
import Derived.Test.YtacnhklhimogkaaDoorGrK
import Derived.Test.YtacnhklhimogkaaDoorGrM
import Derived.Test.YtacnhklhimogkaaDoorT
import Derived.WalkKit
import Derived.WalkSpells
import Derived.WalkLawsBesides
import Derived.Handy
import Derived.Deep.QuietTactic
import Derived.BigQuiet
import Derived.Outline
import Derived.Laws.BitsAllLaws
import Derived.IntWalk
import Derived.Lib.SmallJoins
import Derived.Lib.Hide
namespace Go.Proofs.YtacnhklhimogkaaDoor
set_option linter.unusedVariables false
set_option linter.unusedSimpArgs false
open Go.RowKit

abbrev icells3 (na nb nc : Int) (a b c : Nat → Int) : Array Value := #[.int .i64 na, .int .i64 (a 0), .int .i64 (a 1), .int .i64 (a 2), .int .i64 (a 3), .int .i64 (a 4), .int .i64 nb, .int .i64 (b 0), .int .i64 (b 1), .int .i64 (b 2), .int .i64 (b 3), .int .i64 (b 4), .int .i64 nc, .int .i64 (c 0), .int .i64 (c 1), .int .i64 (c 2), .int .i64 (c 3), .int .i64 (c 4)]
abbrev iv3 (na nb nc : Int) (a b c : Nat → Int) : Value := .agg (icells3 na nb nc a b c)

def ThreeOk (na nb nc : Int) (a b c : Nat → Int) : Prop := BothOk na nb a b ∧ BothOk nb nc b c

end Go.Proofs.YtacnhklhimogkaaDoor
