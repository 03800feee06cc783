/- Plain facts on bits of integers: what the operators | and & give for integers that are not negative and small. -/
import Derived.Laws.BitsAllLaws
import Derived.IntWalk
namespace Go.Proofs.Ytokjdlljhloflaa.Gra
open Go.RowKit

theorem i64_or_nat (a b : Nat) (ha : a < 4294967296) (hb : b < 4294967296) : bits .or .i64 (a : Int) (b : Int) = ((a ||| b : Nat) : Int) := by
  have hx : a ||| b < 2 ^ 32 := Nat.or_lt_two_pow (by omega) (by omega)
  show IntKind.i64.wrap ((BitVec.ofInt 64 (a : Int) ||| BitVec.ofInt 64 (b : Int)).toNat : Int) = _
  rw [BitVec.toNat_or, ofInt_u64 a (by omega), ofInt_u64 b (by omega)]
  exact IntWalk.i64_in _ (by omega)
theorem i64_and_nat (a b : Nat) (ha : a < 4294967296) (hb : b < 4294967296) : bits .and .i64 (a : Int) (b : Int) = ((a &&& b : Nat) : Int) := by
  have hx : a &&& b < 2 ^ 32 := Nat.and_lt_two_pow _ (by omega)
  show IntKind.i64.wrap ((BitVec.ofInt 64 (a : Int) &&& BitVec.ofInt 64 (b : Int)).toNat : Int) = _
  rw [BitVec.toNat_and, ofInt_u64 a (by omega), ofInt_u64 b (by omega)]
  exact IntWalk.i64_in _ (by omega)
theorem i64_and_one (a : Nat) (ha : a < 4294967296) : bits .and .i64 (a : Int) 1 = ((a % 2 : Nat) : Int) := by
  have h := i64_and_nat a 1 ha (by omega)
  rw [nat_mask1] at h
  exact h
/-- The test 'x >> p & 1 == 0' where the process p is an element, q being 2 to the power p. -/
theorem bit_set (a q : Nat) (ha : a < 4294967296) (h : a / q % 2 = 1) : (bits .and .i64 ((a : Int) / (q : Int)) 1 == 0) = false := by
  rw [← Int.natCast_ediv, i64_and_one _ (Nat.lt_of_le_of_lt (Nat.div_le_self _ _) ha), h]
  rfl
theorem bit_set0 (a : Nat) (ha : a < 4294967296) (h : a % 2 = 1) : (bits .and .i64 (a : Int) 1 == 0) = false := by
  rw [i64_and_one _ ha, h]
  rfl
end Go.Proofs.Ytokjdlljhloflaa.Gra
