/- Plain facts on unions of graphs: they are well-formed, commutative, associative and idempotent, and the least graph in which both are inside. -/
import Derived.Test.YtacnhklhimogkaaDoorT
import Derived.Test.YtacnhklhimogkaaDoorGrB
import Derived.Test.YtacnhklhimogkaaDoorGrA
import Derived.Test.YtacnhklhimogkaaDoorGrC
import Derived.Test.YtacnhklhimogkaaDoorGrD
import Derived.Test.YtacnhklhimogkaaDoorGrE
import Derived.Test.YtacnhklhimogkaaDoorGrK
import Derived.Deep.RegionWith
import Derived.Test.YtacnhklhimogkaaDoorGrM
import Derived.WalkKit
import Derived.WalkSpells
import Derived.WalkLawsBesides
import Derived.Handy
import Derived.Deep.QuietTactic
import Derived.BigQuiet
import Derived.Outline
import Derived.Laws.BitsAllLaws
import Derived.IntWalk
import Derived.Lib.SmallJoins
import Derived.Lib.Hide
namespace Go.Proofs.YtacnhklhimogkaaDoor
set_option linter.unusedVariables false
set_option linter.unusedSimpArgs false
open Go.RowKit






theorem wf_or {n : Nat} {a b : Nat → Nat} (ha : WF n a) (hb : WF n b) : WF n (fun p => a p ||| b p) := by
  refine ⟨ha.1, fun p hp => ⟨Nat.or_lt_two_pow (ha.2.1 p hp).1 (hb.2.1 p hp).1, ?_⟩, fun p hp h5 => by show a p ||| b p = 0; rw [ha.2.2 p hp h5, hb.2.2 p hp h5]; rfl⟩
  have h1 := (ha.2.1 p hp).2
  show (a p ||| b p) / 2 ^ p % 2 = 1
  have e : ∀ x : Nat, x / 2 ^ p % 2 = (x.testBit p).toNat := fun x => by rw [Nat.testBit_eq_decide_div_mod_eq]; by_cases h : x / 2 ^ p % 2 = 1 <;> simp [h]; omega
  rw [e] at h1 ⊢
  have h2 : (a p).testBit p = true := by cases hb : (a p).testBit p <;> simp [hb] at h1 ⊢
  rw [Nat.testBit_or, h2]
  rfl

theorem geq_self (n a0 a1 a2 a3 a4 b0 b1 b2 b3 b4 : Nat) (h0 : a0 = b0) (h1 : a1 = b1) (h2 : a2 = b2) (h3 : a3 = b3) (h4 : a4 = b4) : geq n n a0 a1 a2 a3 a4 b0 b1 b2 b3 b4 = true := by
  unfold geq; simp [h0, h1, h2, h3, h4]

theorem or_le {a b c : Nat} : (a ||| b) ||| c = c ↔ (a ||| c = c ∧ b ||| c = c) := by
  constructor
  · intro h
    refine ⟨?_, ?_⟩
    · rw [← h, ← Nat.or_assoc, ← Nat.or_assoc, Nat.or_self]
    · rw [← h, Nat.or_comm a b, ← Nat.or_assoc, ← Nat.or_assoc, Nat.or_self]
  · rintro ⟨h1, h2⟩
    rw [Nat.or_assoc, h2, h1]

theorem geq_both (n a0 a1 a2 a3 a4 b0 b1 b2 b3 b4 c0 c1 c2 c3 c4 : Nat) :
    geq n n ((a0 ||| b0) ||| c0) ((a1 ||| b1) ||| c1) ((a2 ||| b2) ||| c2) ((a3 ||| b3) ||| c3) ((a4 ||| b4) ||| c4) c0 c1 c2 c3 c4 =
      (geq n n (a0 ||| c0) (a1 ||| c1) (a2 ||| c2) (a3 ||| c3) (a4 ||| c4) c0 c1 c2 c3 c4 && geq n n (b0 ||| c0) (b1 ||| c1) (b2 ||| c2) (b3 ||| c3) (b4 ||| c4) c0 c1 c2 c3 c4) := by
  rw [Bool.eq_iff_iff]
  unfold geq
  simp only [Bool.and_eq_true, decide_eq_true_eq, or_le]
  constructor
  · rintro ⟨_, ⟨p0, q0⟩, ⟨p1, q1⟩, ⟨p2, q2⟩, ⟨p3, q3⟩, p4, q4⟩
    exact ⟨⟨by trivial, p0, p1, p2, p3, p4⟩, by trivial, q0, q1, q2, q3, q4⟩
  · rintro ⟨⟨_, p0, p1, p2, p3, p4⟩, _, q0, q1, q2, q3, q4⟩
    exact ⟨by trivial, ⟨p0, q0⟩, ⟨p1, q1⟩, ⟨p2, q2⟩, ⟨p3, q3⟩, p4, q4⟩

theorem wfi_of {N : Nat} {k : Nat → Nat} (h : WF N k) : WFI (N : Int) (fun p => (k p : Int)) := by
  refine ⟨by have := h.1; omega, fun p hp => ?_⟩
  show okRow (N : Int).toNat p (k p : Int)
  unfold okRow
  by_cases hn : p < N
  · rw [if_pos (show p < (N : Int).toNat from hn)]
    exact ⟨by omega, by have := (h.2.1 p hn).1; simp only [Int.toNat_natCast]; omega, (h.2.1 p hn).2⟩
  · rw [if_neg (show ¬ p < (N : Int).toNat from hn), h.2.2 p (by omega) hp]
    rfl

end Go.Proofs.YtacnhklhimogkaaDoor
