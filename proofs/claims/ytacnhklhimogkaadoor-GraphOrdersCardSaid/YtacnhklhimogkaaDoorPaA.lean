/- The set of the digits of one part of a text. -/
import Derived.Test.YtacnhklhimogkaaDoorSpN
import Derived.Test.YtacnhklhimogkaaDoorAwB
import Derived.Test.YtacnhklhimogkaaDoorGrD
import Derived.LoopTactic
import Derived.WalkKit
import Derived.WalkSpells
import Derived.WalkLawsBesides
import Derived.Handy
import Derived.Deep.QuietTactic
import Derived.BigQuiet
import Derived.Outline
import Derived.Laws.BitsAllLaws
import Derived.IntWalk
import Derived.Lib.SmallJoins
import Derived.Lib.Hide
namespace Go.Proofs.YtacnhklhimogkaaDoor
set_option linter.unusedVariables false
set_option linter.unusedSimpArgs false
open Go.RowKit

theorem orb_take {l : List UInt8} {i : Nat} {b : UInt8} (h : l[i]? = some b) : orb (l.take (i + 1)) = orb1 (orb (l.take i)) b := by
  rw [List.take_add_one, h]
  exact orb_app _ _

set_option maxRecDepth 100000 in
set_option maxHeartbeats 2000000 in
theorem parse1_any (w : World) (g k p N cap : Nat) (l : List UInt8) (hp : p < N) (hN : N ≤ 4294967296) (hl : l.length ≤ 4294967296) (h0 : w.cell? ⟨g, 0, none⟩ = some (.slice (some ⟨k, 0, none⟩) N cap)) (h1 : w.cell? ⟨k, p, none⟩ = some (.string { data := l.toArray })) :
    Calls Tryd.prog 59 #[.int .i64 (p : Int), .pointer (some ⟨g, 0, none⟩)] w fun e w' => e = .returned (.int .i64 ((orb l : Nat) : Int)) ∧ Below w.heap.size w w' := by
  obtain ⟨cap2, V, hrun, hB, hc⟩ := conv_bytes w l
  have HB := Lib.hid hB
  have HC := Lib.hid hc
  clear hc hB
  go_enter Tryd.func59, Tryd.ntmps59
  go_wp2_with fail
  clear hrun h0 h1
  go_loop [4, 13] (fun r j => ∃ i : Nat, i ≤ l.length ∧ j = .int .i64 i ∧ r = .int .i64 ((orb (l.take i) : Nat) : Int)) (fun _ j => l.length - (intOf j).toNat)
  case atStart => exact ⟨0, by omega, rfl, rfl⟩
  case round =>
    obtain ⟨i, hi, rfl, rfl⟩ := hrel
    by_cases hlt : i < l.length
    · obtain ⟨b, hb⟩ : ∃ b, l[i]? = some b := ⟨l[i], List.getElem?_eq_getElem hlt⟩
      have hcell := HC.out i b hb
      have hnext := orb_take hb
      have hr := orb_lt (l.take i)
      have hb8 : b.toNat < 256 := b.toNat_lt
      obtain ⟨r, hrr⟩ : ∃ r, orb (l.take i) = r := ⟨_, rfl⟩
      obtain ⟨r', hrr'⟩ : ∃ r, orb (l.take (i + 1)) = r := ⟨_, rfl⟩
      rw [hrr] at hnext hr ⊢
      rw [hrr'] at hnext
      have Hr' := Lib.hid hrr'
      unfold orb1 at hnext
      obtain ⟨q, hq⟩ : ∃ q, b.toNat = q := ⟨_, rfl⟩
      rw [hq] at hnext hcell hb8
      clear hrr hrr' hq hb
      by_cases hd : 48 ≤ q ∧ q < 53
      · rw [if_pos hd] at hnext
        have hor : bits .or .i64 ((r : Nat) : Int) ((2 ^ (q - 48) : Nat) : Int) = ((r' : Nat) : Int) := by
          rw [hnext]
          exact i64_or_nat _ _ (by omega) (Nat.lt_of_lt_of_le (Nat.pow_lt_pow_right (by omega) (show q - 48 < 5 by omega)) (by decide))
        clear hnext
        obtain rfl | rfl | rfl | rfl | rfl : q = 48 ∨ q = 49 ∨ q = 50 ∨ q = 51 ∨ q = 52 := by omega
        all_goals
          simp only [Nat.reduceSub, Nat.reducePow, Int.cast_ofNat_Int] at hor
          go_wp2_with fail
          exact ⟨⟨i + 1, by omega, by go_num, by rw [Hr'.out]⟩, by simp [intOf]; omega⟩
      · rw [if_neg hd] at hnext
        subst hnext
        by_cases hq1 : q < 48
        · clear hd
          go_wp2_with fail
          exact ⟨⟨i + 1, by omega, by go_num, by rw [Hr'.out]⟩, by simp [intOf]; omega⟩
        · have hq2 : 53 ≤ q := by omega
          have hq3 : 48 ≤ q := by omega
          clear hd hq1
          go_wp2_with fail
          exact ⟨⟨i + 1, by omega, by go_num, by rw [Hr'.out]⟩, by simp [intOf]; omega⟩
    · have hie : i = l.length := by omega
      subst hie
      rw [List.take_length]
      go_wp2_with fail
      go_ret
      exact ⟨rfl, HB.out⟩
end Go.Proofs.YtacnhklhimogkaaDoor
