/- The specification of procset: numbers, the digits between braces. -/
import Derived.Test.YtienbebbgioccaaDoorPsL
import Derived.WalkKit
import Derived.WalkSpells
import Derived.WalkLawsBesides
import Derived.Handy
import Derived.Deep.QuietTactic
import Derived.BigQuiet
import Derived.Outline
import Derived.Laws.BitsAllLaws
import Derived.IntWalk
import Derived.Lib.SmallJoins
import Derived.Lib.Hide
import Derived.Deep.DeepCutAuto
import Derived.LoopTactic
import Derived.Deep.RegionWith
namespace Go.Proofs.YtienbebbgioccaaDoor
set_option linter.unusedVariables false
set_option linter.unusedSimpArgs false
open Go.RowKit

/-- A text cut at its commas. -/
def cut : List UInt8 → List (List UInt8)
  | [] => [[]]
  | b :: l => if b = 44 then [] :: cut l else match cut l with
    | x :: r => (b :: x) :: r
    | [] => [[b]]
theorem cut_ne : ∀ l, cut l ≠ []
  | [] => by simp [cut]
  | b :: l => by
    unfold cut
    split
    · simp
    · split <;> simp
theorem index_cons_ne (b : UInt8) (l : List UInt8) (h : b ≠ 44) : Lib.index (b :: l) [44] = if Lib.index l [44] == -1 then -1 else Lib.index l [44] + 1 := by
  have hp : ([44] : List UInt8).isPrefixOf (b :: l) = false := by simp [List.isPrefixOf, Ne.symm h]
  rw [Lib.index, hp]; simp
theorem index_cons_eq (l : List UInt8) : Lib.index (44 :: l) [44] = 0 := by
  have hp : ([44] : List UInt8).isPrefixOf (44 :: l) = true := by simp [List.isPrefixOf]
  rw [Lib.index, hp]; simp
theorem splitK_cut : ∀ l : List UInt8, Lib.splitK [44] 0 (Lib.count l [44]) l = cut l
  | [] => by
    rw [Lib.count_one]
    rfl
  | b :: l => by
    have ih := splitK_cut l
    by_cases h : b = 44
    · subst h
      rw [Lib.count_cons_eq, Nat.add_comm]
      unfold Lib.splitK cut
      rw [index_cons_eq, if_pos rfl, if_neg (by decide)]
      simp
      exact ih
    · rw [Lib.count_cons_ne _ _ _ h]
      have e := index_cons_ne b l h
      unfold cut
      rw [if_neg h, ← ih]
      cases hk : Lib.count l [44] with
      | zero => rfl
      | succ k =>
        have hpos : 0 < Lib.count l [44] := by omega
        obtain ⟨i, hi⟩ := Lib.index_of_count hpos
        rw [hi, if_neg (by first | (simp; done) | (simp; omega))] at e
        show Lib.splitK [44] 0 (k + 1) (b :: l) = match Lib.splitK [44] 0 (k + 1) l with | x :: r => (b :: x) :: r | [] => [[b]]
        unfold Lib.splitK
        rw [e, hi, if_neg (by first | (simp; done) | (simp; omega)), if_neg (by first | (simp; done) | (simp; omega))]
        have e1 : ((i : Int) + 1).toNat = i + 1 := by omega
        have e2 : (i : Int).toNat = i := by omega
        rw [e1, e2]
        simp
/-- The numbers of parts, as lists of bytes. -/
def ptc : List (List UInt8) → Option (List Nat)
  | [] => some []
  | x :: r => match pgl x, ptc r with
    | some p, some l => some (p :: l)
    | _, _ => none
theorem ptl_ptc : ∀ ps : List ByteArray, ptl ps = ptc (ps.map (·.data.toList))
  | [] => rfl
  | x :: r => by
    unfold ptl
    rw [List.map_cons]
    unfold ptc
    rw [ptl_ptc r]
    rfl
/-- A digit of a byte. -/
def dgt (b : UInt8) : Option Nat := if 48 ≤ b.toNat ∧ b.toNat ≤ 57 then some (b.toNat - 48) else none
/-- Digits and commas in turn. -/
def altb : Bool → List UInt8 → Option (List Nat)
  | true, [] => none
  | false, [] => some []
  | true, b :: r => match dgt b with
    | some d => (altb false r).map (d :: ·)
    | none => none
  | false, c :: r => if c = 44 then altb true r else none
theorem ptc_cut : ∀ (n : Nat) (t : List UInt8), t.length ≤ n → ptc (cut t) = altb true t
  | n, [], _ => rfl
  | n, [b], _ => by
    by_cases h : b = 44
    · subst h; decide +kernel
    · have e : cut [b] = [[b]] := by simp [cut, h]
      rw [e]
      show (match pgl [b], ptc [] with | some p, some l => some (p :: l) | _, _ => none) = _
      show (match (if 48 ≤ b.toNat ∧ b.toNat ≤ 57 then some (b.toNat - 48) else none), (some [] : Option (List Nat)) with | some p, some l => some (p :: l) | _, _ => none) = match dgt b with | some d => (some []).map (d :: ·) | none => none
      unfold dgt
      by_cases hd : 48 ≤ b.toNat ∧ b.toNat ≤ 57
      · rw [if_pos hd]; rfl
      · rw [if_neg hd]
  | n + 1, b :: c :: r, hn => by
    by_cases h : b = 44
    · subst h
      have e : cut (44 :: c :: r) = [] :: cut (c :: r) := by conv => lhs; unfold cut
                                                             simp
      rw [e]
      rfl
    · by_cases h2 : c = 44
      · subst h2
        have ih := ptc_cut n r (by simp at hn; omega)
        have e : cut (b :: 44 :: r) = [b] :: cut r := by
          have e1 : cut (44 :: r) = [] :: cut r := by conv => lhs; unfold cut
                                                      simp
          conv => lhs; unfold cut
          rw [if_neg h, e1]
        rw [e]
        show (match (if 48 ≤ b.toNat ∧ b.toNat ≤ 57 then some (b.toNat - 48) else none), ptc (cut r) with | some p, some l => some (p :: l) | _, _ => none) = match dgt b with | some d => (altb true r).map (d :: ·) | none => none
        rw [ih]
        unfold dgt
        by_cases hd : 48 ≤ b.toNat ∧ b.toNat ≤ 57
        · rw [if_pos hd]; cases altb true r <;> rfl
        · rw [if_neg hd]
      · have e1 : ∃ x q, cut (c :: r) = (c :: x) :: q := by
          conv => arg 1; ext x; arg 1; ext q; lhs; unfold cut
          rw [if_neg h2]
          cases hc : cut r with
          | nil => exact absurd hc (cut_ne r)
          | cons x q => exact ⟨x, q, by simp [hc]⟩
        obtain ⟨x, q, e1⟩ := e1
        have e : cut (b :: c :: r) = (b :: c :: x) :: q := by
          conv => lhs; unfold cut
          rw [if_neg h, e1]
        rw [e]
        show (match (none : Option Nat), ptc q with | some p, some l => some (p :: l) | _, _ => none) = match dgt b with | some d => (if c = 44 then altb true r else none).map (d :: ·) | none => none
        rw [if_neg h2]
        cases dgt b <;> rfl
theorem ptl_alt (t : ByteArray) : ptl (cpts t) = altb true t.data.toList := by
  rw [ptl_ptc]
  unfold cpts
  rw [Lib.splitB_data]
  have e : Lib.countB t { data := #[44] } = Lib.count t.data.toList [44] := rfl
  rw [e]
  have h := splitK_cut t.data.toList
  show ptc (Lib.splitK [44] 0 (Lib.count t.data.toList [44]) t.data.toList) = _
  rw [h]
  exact ptc_cut _ _ (Nat.le_refl _)
end Go.Proofs.YtienbebbgioccaaDoor
