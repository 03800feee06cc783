/- The specification: SameInts, SameLists, Class; words for slices of slices. -/
import Derived.Test.YtokjdlljhloflaaPtX
import Derived.WalkKit
import Derived.WalkSpells
import Derived.WalkLawsBesides
import Derived.Handy
import Derived.Deep.QuietTactic
import Derived.BigQuiet
import Derived.Outline
import Derived.Laws.BitsAllLaws
import Derived.IntWalk
import Derived.Lib.SmallJoins
import Derived.Lib.Hide
import Derived.Deep.DeepCutAuto
import Derived.LoopTactic
import Derived.Deep.RegionWith
import Derived.Maps.AppendAt
namespace Go.Proofs.Ytokjdlljhloflaa
set_option linter.unusedVariables false
set_option linter.unusedSimpArgs false
open Go.RowKit Part

/-- A slice of k lists of integers. -/
def Ls (w : World) (o : Option Addr) (k : Nat) (L : Nat → List Int) : Prop := 0 < k → ∃ b off, o = some ⟨b, off, none⟩ ∧ b < w.heap.size ∧ ∀ c, c < k → ∃ oc capc, w.cell? ⟨b, off + c, none⟩ = some (.slice oc (L c).length capc) ∧ Lz w oc (L c).length (fun j => (L c).getD j 0)
theorem Ls.below {w W : World} {o : Option Addr} {k : Nat} {L : Nat → List Int} (h : Ls w o k L) (hb : Below w.heap.size w W) : Ls W o k L := fun hn => by
  obtain ⟨b, off, e, hl, hc⟩ := h hn
  refine ⟨b, off, e, Nat.lt_of_lt_of_le hl hb.size, fun c hk => ?_⟩
  obtain ⟨oc, capc, h1, h2⟩ := hc c hk
  exact ⟨oc, capc, (hb.cell (p := ⟨b, off + c, none⟩) hl).trans h1, h2.below hb⟩
theorem Lz.drewN {w : World} {o : Option Addr} {n : Nat} {f : Nat → Int} (h : Lz w o n f) (d : Nat) : Lz (w.drewN d) o n f := h
theorem Ls.nil {w : World} {o : Option Addr} {L : Nat → List Int} : Ls w o 0 L := fun h => absurd h (Nat.not_lt_zero _)
theorem app_int2 {ops : Array Oper} {rest : List Oper} {o : Oper} {a : Act} {Q : Exit → Act → World → Prop} (w : World) (hgd : o.guard = none) (s x : Operand)
    (ho : o.op = .call { callee := .builtin .append, args := #[s, x], argTypes := #[22, 22] })
    (R : Nat) (v : Value) (l : List Int) (hs : a.eval s = v) (hrow : Row w R v l) (b : Nat) (z : Int) (hx : a.eval x = .slice (some ⟨b, 0, none⟩) 1 1) (hc : w.cell? ⟨b, 0, none⟩ = some (.int .i64 z)) (hl : l.length ≤ 1000000) (hR : R ≤ w.heap.size)
    (h : ∀ (g cap : Nat) w', Row w' R (.slice (some ⟨g, 0, none⟩) (l.length + 1) cap) (l ++ [z]) → w.grownBy w' v.ownBlock → (some g = v.ownBlock ∨ g = w.heap.size) → wpList Try.prog ops Q rest (a.put o.dst (.slice (some ⟨g, 0, none⟩) (l.length + 1) cap)) w') :
    wpList Try.prog ops Q (o :: rest) a w := by
  obtain ⟨i0, hi, hz0, hz1, hz2⟩ := info_parts infoI
  refine wpList_append_own_at _ hgd s x 22 ho R 3 i0 (.int .i64 0) 1 8 Try.underlying22 hi hz0 hz1 hz2 rfl (by decide) v l.length (lsv l) hs hrow ⟨b, 0, none⟩ 1 1 [.int .i64 z] hx rfl ?_ ?_ ?_ ?_ hR ?_
  · intro j u hu
    match j, hu with
    | 0, hu =>
      simp at hu
      subst hu
      exact hc
    | j + 1, hu => simp at hu
  · intro u hu; simp at hu; rw [hu]; rfl
  · unfold maxLen; omega
  · omega
  · intro v' w' hown hgrow _ hat
    have hr : Row w' R v' (l ++ [z]) := by
      have e : lsv l ++ [.int .i64 z] = lsv (l ++ [z]) := by simp [lsv]
      unfold Row
      rw [List.length_append, List.length_singleton, ← e]
      exact hown
    rcases hr.cases with ⟨_, h1⟩ | ⟨g, cap, h1, h2, _, _⟩
    · simp at h1
    · rw [List.length_append, List.length_singleton] at h1
      subst h1
      exact h g cap w' hr hgrow (hat.imp id (fun e => by simpa [Value.ownBlock] using e))
theorem infoL : (Try.prog.info? 22).map (fun i => (i.zero, i.size, i.bytes)) = some (some (.slice none 0 0), 1, 24) := by kernel_rfl
/-- The places below i with label c. -/
def memb (a : Nat → Nat) (i c : Nat) : List Int := ((List.range i).filter fun j => a j == c).map fun (j : Nat) => (j : Int)
theorem memb_zero (a : Nat → Nat) (c : Nat) : memb a 0 c = [] := rfl
theorem memb_yes {a : Nat → Nat} {i c : Nat} (h : a i = c) : memb a (i + 1) c = memb a i c ++ [(i : Int)] := by
  unfold memb
  rw [List.range_succ, List.filter_append, List.map_append]
  simp [h]
theorem memb_no {a : Nat → Nat} {i c : Nat} (h : a i ≠ c) : memb a (i + 1) c = memb a i c := by
  unfold memb
  rw [List.range_succ, List.filter_append, List.map_append]
  simp [h]
theorem memb_len (a : Nat → Nat) (i c : Nat) : (memb a i c).length ≤ i := by
  unfold memb
  rw [List.length_map]
  exact Nat.le_trans (List.length_filter_le _ _) (by simp)

end Go.Proofs.Ytokjdlljhloflaa
