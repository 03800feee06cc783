/- Equality of two graphs as values: it says whether the numbers of processes and all rows are equal. -/
import Derived.Test.YtokjdlljhloflaaRows
import Derived.WalkKit
import Derived.WalkSpells
import Derived.WalkLawsBesides
import Derived.Laws.StructEq
import Derived.Laws.IdiomArrays
namespace Go.Proofs.Ytokjdlljhloflaa.Gra
open Go.RowKit

theorem run_eql_arr (x0 x1 x2 x3 x4 y0 y1 y2 y3 y4 : Int) (d : Nat) (w : World) :
    (Op.equalIn (d + 3) 36 (.agg #[.int .i64 x0, .int .i64 x1, .int .i64 x2, .int .i64 x3, .int .i64 x4]) (.agg #[.int .i64 y0, .int .i64 y1, .int .i64 y2, .int .i64 y3, .int .i64 y4])).run Try.prog w =
      .ok ((x0 == y0) && ((x1 == y1) && ((x2 == y2) && ((x3 == y3) && (x4 == y4))))) w := by
  have hu : Try.prog.underlying 36 = some (.array 5 3) := by kernel_rfl
  unfold Op.equalIn
  simp [run_underlying hu, go_sem, List.range']
  by_cases h0 : x0 = y0 <;> by_cases h1 : x1 = y1 <;> by_cases h2 : x2 = y2 <;> by_cases h3 : x3 = y3 <;> by_cases h4 : x4 = y4 <;> simp [h0, h1, h2, h3, h4]

/-- Whether two graphs are equal. -/
def geq (n m a0 a1 a2 a3 a4 b0 b1 b2 b3 b4 : Nat) : Bool := decide (n = m ∧ a0 = b0 ∧ a1 = b1 ∧ a2 = b2 ∧ a3 = b3 ∧ a4 = b4)

theorem geq_of {n m a0 a1 a2 a3 a4 b0 b1 b2 b3 b4 : Nat} : (((n : Int) == (m : Int)) && (((a0 : Int) == (b0 : Int)) && (((a1 : Int) == (b1 : Int)) && (((a2 : Int) == (b2 : Int)) && (((a3 : Int) == (b3 : Int)) && ((a4 : Int) == (b4 : Int))))))) = geq n m a0 a1 a2 a3 a4 b0 b1 b2 b3 b4 := by
  unfold geq
  rw [Bool.eq_iff_iff]
  simp [Int.natCast_inj]

theorem run_eqin (n m a0 a1 a2 a3 a4 b0 b1 b2 b3 b4 : Nat) (w : World) :
    (Op.equalIn 10000 38 (.agg #[.int .i64 (n : Int), .int .i64 (a0 : Int), .int .i64 (a1 : Int), .int .i64 (a2 : Int), .int .i64 (a3 : Int), .int .i64 (a4 : Int)]) (.agg #[.int .i64 (m : Int), .int .i64 (b0 : Int), .int .i64 (b1 : Int), .int .i64 (b2 : Int), .int .i64 (b3 : Int), .int .i64 (b4 : Int)])).run Try.prog w =
      .ok (geq n m a0 a1 a2 a3 a4 b0 b1 b2 b3 b4) w := by
  rw [← geq_of]
  have h := run_eql_arr a0 a1 a2 a3 a4 b0 b1 b2 b3 b4 9996 w
  simp only [Nat.reduceAdd] at h
  simp [go_sem, h]
  by_cases hn : (n : Int) = m <;> by_cases h0 : (a0 : Int) = b0 <;> by_cases h1 : (a1 : Int) = b1 <;> by_cases h2 : (a2 : Int) = b2 <;> by_cases h3 : (a3 : Int) = b3 <;> by_cases h4 : (a4 : Int) = b4 <;> simp [hn, h0, h1, h2, h3, h4]

theorem run_eql_g (n m a0 a1 a2 a3 a4 b0 b1 b2 b3 b4 : Nat) (w : World) :
    (binOp .eql 38 (.agg #[.int .i64 (n : Int), .int .i64 (a0 : Int), .int .i64 (a1 : Int), .int .i64 (a2 : Int), .int .i64 (a3 : Int), .int .i64 (a4 : Int)]) (.agg #[.int .i64 (m : Int), .int .i64 (b0 : Int), .int .i64 (b1 : Int), .int .i64 (b2 : Int), .int .i64 (b3 : Int), .int .i64 (b4 : Int)])).run Try.prog w = .ok (.bool (geq n m a0 a1 a2 a3 a4 b0 b1 b2 b3 b4)) w := by
  rw [run_eql_struct, run_eqin]
  rfl
theorem run_neq_g (n m a0 a1 a2 a3 a4 b0 b1 b2 b3 b4 : Nat) (w : World) :
    (binOp .neq 38 (.agg #[.int .i64 (n : Int), .int .i64 (a0 : Int), .int .i64 (a1 : Int), .int .i64 (a2 : Int), .int .i64 (a3 : Int), .int .i64 (a4 : Int)]) (.agg #[.int .i64 (m : Int), .int .i64 (b0 : Int), .int .i64 (b1 : Int), .int .i64 (b2 : Int), .int .i64 (b3 : Int), .int .i64 (b4 : Int)])).run Try.prog w = .ok (.bool (!geq n m a0 a1 a2 a3 a4 b0 b1 b2 b3 b4)) w := by
  rw [run_neq_struct, run_eqin]
  rfl
end Go.Proofs.Ytokjdlljhloflaa.Gra
