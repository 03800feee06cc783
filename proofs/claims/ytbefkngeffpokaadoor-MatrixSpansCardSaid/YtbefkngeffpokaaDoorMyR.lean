/- The examples of the chapter. -/
import Derived.Test.YtbefkngeffpokaaDoorMyQ
import Derived.WalkKit
import Derived.WalkSpells
import Derived.WalkLawsBesides
import Derived.Handy
import Derived.Deep.QuietTactic
import Derived.BigQuiet
import Derived.Outline
import Derived.Laws.BitsAllLaws
import Derived.IntWalk
import Derived.Lib.SmallJoins
import Derived.Lib.Hide
import Derived.Deep.DeepCutAuto
import Derived.LoopTactic
import Derived.Deep.RegionWith
import Derived.Laws.CopyOwn
import Derived.Maps.OwnOps
import Derived.Maps.OwnSet
import Derived.Laws.OwnMore
import Derived.Maps.AppendAt
import Derived.RangeFuncNested
import Derived.RangeFuncBound
import Derived.RangeFuncCalls
import Derived.RangeFuncLeaves
import Derived.RangeFuncBox
import Derived.RangeFuncFrom
import Derived.Shelf.Abstract
import Derived.Shelf.RegionOpen
import Derived.OwnWalkIn
import Derived.TacticsInMore
import Derived.LoopNIn
import Derived.LoopIn
import Derived.Deep.RegionHeld3
import Derived.RegionTactic
import Derived.ChangeAlike
namespace Go.Proofs.YtbefkngeffpokaaDoor
set_option linter.unusedVariables false
set_option linter.unusedSimpArgs false
open Go.RowKit


def ext : Nat → Nat := fun c => if c = 0 then 5 else if c = 1 then 6 else if c = 3 then 8 else 0
def ext1 : Nat → Nat := fun c => if c = 0 then 5 else if c = 1 then 22 else if c = 3 then 24 else 0
def ext2 : Nat → Nat := fun c => if c = 0 then 5 else if c = 1 then 6 else if c = 3 then 8 else if c = 4 then 16 else 0
theorem ex_can : Can 4 (rows 4 exr) [0, 1, 3] ext := by
  have e1 : rows 4 exr = [3, 6, 5, 8] := by decide
  have e2 : [0, 1, 3].map ext = [5, 6, 8] := by decide
  refine ⟨by decide, ech_of (by decide) (fun c hc => ?_) (by decide), ?_, fun c hc => ?_⟩
  · simp only [List.mem_cons, List.not_mem_nil, or_false] at hc
    obtain rfl | rfl | rfl := hc
    · exact ⟨by decide, by decide⟩
    · exact ⟨by decide, by decide⟩
    · exact ⟨by decide, by decide⟩
  · rw [e1, e2]
    have h5 : Sp [5, 6, 8] 5 := .row (by decide)
    have h6 : Sp [5, 6, 8] 6 := .row (by decide)
    have h8 : Sp [5, 6, 8] 8 := .row (by decide)
    refine ⟨fun x hx => ?_, fun x hx => .row ?_⟩
    · simp only [List.mem_cons, List.not_mem_nil, or_false] at hx
      obtain rfl | rfl | rfl | rfl := hx
      · exact h5.sum h6
      · exact h6
      · exact h5
      · exact h8
    · simp only [List.mem_cons, List.not_mem_nil, or_false] at hx ⊢
      omega
  · simp only [List.mem_cons, List.not_mem_nil, or_false] at hc
    unfold ext
    rw [if_neg (by omega), if_neg (by omega), if_neg (by omega)]
theorem ex_can1 : Can 5 (rows 4 (wide 4 exr 11)) [0, 1, 3] ext1 := by
  have e1 : rows 4 (wide 4 exr 11) = [19, 22, 5, 24] := by decide
  have e2 : [0, 1, 3].map ext1 = [5, 22, 24] := by decide
  refine ⟨by decide, ech_of (by decide) (fun c hc => ?_) (by decide), ?_, fun c hc => ?_⟩
  · simp only [List.mem_cons, List.not_mem_nil, or_false] at hc
    obtain rfl | rfl | rfl := hc
    · exact ⟨by decide, by decide⟩
    · exact ⟨by decide, by decide⟩
    · exact ⟨by decide, by decide⟩
  · rw [e1, e2]
    have h5 : Sp [5, 22, 24] 5 := .row (by decide)
    have h6 : Sp [5, 22, 24] 22 := .row (by decide)
    have h8 : Sp [5, 22, 24] 24 := .row (by decide)
    refine ⟨fun x hx => ?_, fun x hx => .row ?_⟩
    · simp only [List.mem_cons, List.not_mem_nil, or_false] at hx
      obtain rfl | rfl | rfl | rfl := hx
      · exact h5.sum h6
      · exact h6
      · exact h5
      · exact h8
    · simp only [List.mem_cons, List.not_mem_nil, or_false] at hx ⊢
      omega
  · simp only [List.mem_cons, List.not_mem_nil, or_false] at hc
    unfold ext1
    rw [if_neg (by omega), if_neg (by omega), if_neg (by omega)]
theorem ex_can2 : Can 5 (rows 4 (wide 4 exr 1)) [0, 1, 3, 4] ext2 := by
  have e1 : rows 4 (wide 4 exr 1) = [19, 6, 5, 8] := by decide
  have e2 : [0, 1, 3, 4].map ext2 = [5, 6, 8, 16] := by decide
  refine ⟨by decide, ech_of (by decide) (fun c hc => ?_) (by decide), ?_, fun c hc => ?_⟩
  · simp only [List.mem_cons, List.not_mem_nil, or_false] at hc
    obtain rfl | rfl | rfl | rfl := hc
    · exact ⟨by decide, by decide⟩
    · exact ⟨by decide, by decide⟩
    · exact ⟨by decide, by decide⟩
    · exact ⟨by decide, by decide⟩
  · rw [e1, e2]
    have h5 : Sp [5, 6, 8, 16] 5 := .row (by decide)
    have h6 : Sp [5, 6, 8, 16] 6 := .row (by decide)
    have h8 : Sp [5, 6, 8, 16] 8 := .row (by decide)
    have h16 : Sp [5, 6, 8, 16] 16 := .row (by decide)
    have g19 : Sp [19, 6, 5, 8] 19 := .row (by decide)
    have g6 : Sp [19, 6, 5, 8] 6 := .row (by decide)
    have g5 : Sp [19, 6, 5, 8] 5 := .row (by decide)
    have g8 : Sp [19, 6, 5, 8] 8 := .row (by decide)
    refine ⟨fun x hx => ?_, fun x hx => ?_⟩
    · simp only [List.mem_cons, List.not_mem_nil, or_false] at hx
      obtain rfl | rfl | rfl | rfl := hx
      · exact (h5.sum h6).sum h16
      · exact h6
      · exact h5
      · exact h8
    · simp only [List.mem_cons, List.not_mem_nil, or_false] at hx
      obtain rfl | rfl | rfl | rfl := hx
      · exact g5
      · exact g6
      · exact g8
      · exact (g19.sum g6).sum g5
  · simp only [List.mem_cons, List.not_mem_nil, or_false] at hc
    unfold ext2
    rw [if_neg (by omega), if_neg (by omega), if_neg (by omega), if_neg (by omega)]
theorem ex_ref {y : Nat} (h : Rf 4 exr 1 y) (hy : y < 2 ^ 4) : y = 7 := by
  have key : ∀ y, y < 16 → sumr exr 0 (el 4 y) = 0 → odl 1 (el 4 y) = true → y = 7 := by decide +kernel
  exact key y hy h.1 h.2
theorem lit1' (U : World) (t t2 : TypeId) (l0 : List Int) (L : Nat → List Int) (h0 : L 0 = l0) : Ls ((U.alloc (.cells (lsv l0).toArray t)).alloc (.cells #[.slice (some ⟨U.heap.size, 0, none⟩) l0.length l0.length] t2)) (some ⟨U.heap.size + 1, 0, none⟩) 1 L := by
  subst h0
  have e0 := (lz_lit (L 0) U t).more (.cells #[.slice (some ⟨U.heap.size, 0, none⟩) (L 0).length (L 0).length] t2)
  have bx := Box.new (U.alloc (.cells (lsv (L 0)).toArray t)) #[.slice (some ⟨U.heap.size, 0, none⟩) (L 0).length (L 0).length] t2
  simp only [World.size_alloc] at e0 bx
  intro _
  refine ⟨_, 0, rfl, bx.lt, fun c hc => ?_⟩
  obtain rfl : c = 0 := by omega
  exact ⟨_, _, bx.cell 0, e0⟩
theorem lit3' (U : World) (t t2 : TypeId) (l0 l1 l2 : List Int) (L : Nat → List Int) (h0 : L 0 = l0) (h1 : L 1 = l1) (h2 : L 2 = l2) : Ls ((((U.alloc (.cells (lsv l0).toArray t)).alloc (.cells (lsv l1).toArray t)).alloc (.cells (lsv l2).toArray t)).alloc (.cells #[.slice (some ⟨U.heap.size, 0, none⟩) l0.length l0.length, .slice (some ⟨U.heap.size + 1, 0, none⟩) l1.length l1.length, .slice (some ⟨U.heap.size + 1 + 1, 0, none⟩) l2.length l2.length] t2)) (some ⟨U.heap.size + 1 + 1 + 1, 0, none⟩) 3 L := by
  subst h0 h1 h2
  have e0 := ((lz_lit (L 0) U t).more (.cells (lsv (L 1)).toArray t)).more (.cells (lsv (L 2)).toArray t) |>.more (.cells #[.slice (some ⟨U.heap.size, 0, none⟩) (L 0).length (L 0).length, .slice (some ⟨U.heap.size + 1, 0, none⟩) (L 1).length (L 1).length, .slice (some ⟨U.heap.size + 1 + 1, 0, none⟩) (L 2).length (L 2).length] t2)
  have e1 := ((lz_lit (L 1) (U.alloc (.cells (lsv (L 0)).toArray t)) t).more (.cells (lsv (L 2)).toArray t)).more (.cells #[.slice (some ⟨U.heap.size, 0, none⟩) (L 0).length (L 0).length, .slice (some ⟨U.heap.size + 1, 0, none⟩) (L 1).length (L 1).length, .slice (some ⟨U.heap.size + 1 + 1, 0, none⟩) (L 2).length (L 2).length] t2)
  have e2 := (lz_lit (L 2) ((U.alloc (.cells (lsv (L 0)).toArray t)).alloc (.cells (lsv (L 1)).toArray t)) t).more (.cells #[.slice (some ⟨U.heap.size, 0, none⟩) (L 0).length (L 0).length, .slice (some ⟨U.heap.size + 1, 0, none⟩) (L 1).length (L 1).length, .slice (some ⟨U.heap.size + 1 + 1, 0, none⟩) (L 2).length (L 2).length] t2)
  have bx := Box.new (((U.alloc (.cells (lsv (L 0)).toArray t)).alloc (.cells (lsv (L 1)).toArray t)).alloc (.cells (lsv (L 2)).toArray t)) #[.slice (some ⟨U.heap.size, 0, none⟩) (L 0).length (L 0).length, .slice (some ⟨U.heap.size + 1, 0, none⟩) (L 1).length (L 1).length, .slice (some ⟨U.heap.size + 1 + 1, 0, none⟩) (L 2).length (L 2).length] t2
  simp only [World.size_alloc] at e0 e1 e2 bx
  intro _
  refine ⟨_, 0, rfl, bx.lt, fun c hc => ?_⟩
  obtain rfl | rfl | rfl : c = 0 ∨ c = 1 ∨ c = 2 := by omega
  · exact ⟨_, _, bx.cell 0, e0⟩
  · exact ⟨_, _, bx.cell 1, e1⟩
  · exact ⟨_, _, bx.cell 2, e2⟩
theorem lit4' (U : World) (t t2 : TypeId) (l0 l1 l2 l3 : List Int) (L : Nat → List Int) (h0 : L 0 = l0) (h1 : L 1 = l1) (h2 : L 2 = l2) (h3 : L 3 = l3) : Ls (((((U.alloc (.cells (lsv l0).toArray t)).alloc (.cells (lsv l1).toArray t)).alloc (.cells (lsv l2).toArray t)).alloc (.cells (lsv l3).toArray t)).alloc (.cells #[.slice (some ⟨U.heap.size, 0, none⟩) l0.length l0.length, .slice (some ⟨U.heap.size + 1, 0, none⟩) l1.length l1.length, .slice (some ⟨U.heap.size + 1 + 1, 0, none⟩) l2.length l2.length, .slice (some ⟨U.heap.size + 1 + 1 + 1, 0, none⟩) l3.length l3.length] t2)) (some ⟨U.heap.size + 1 + 1 + 1 + 1, 0, none⟩) 4 L := by
  subst h0 h1 h2 h3
  have e0 := (((lz_lit (L 0) U t).more (.cells (lsv (L 1)).toArray t)).more (.cells (lsv (L 2)).toArray t)).more (.cells (lsv (L 3)).toArray t) |>.more (.cells #[.slice (some ⟨U.heap.size, 0, none⟩) (L 0).length (L 0).length, .slice (some ⟨U.heap.size + 1, 0, none⟩) (L 1).length (L 1).length, .slice (some ⟨U.heap.size + 1 + 1, 0, none⟩) (L 2).length (L 2).length, .slice (some ⟨U.heap.size + 1 + 1 + 1, 0, none⟩) (L 3).length (L 3).length] t2)
  have e1 := (((lz_lit (L 1) (U.alloc (.cells (lsv (L 0)).toArray t)) t).more (.cells (lsv (L 2)).toArray t)).more (.cells (lsv (L 3)).toArray t)).more (.cells #[.slice (some ⟨U.heap.size, 0, none⟩) (L 0).length (L 0).length, .slice (some ⟨U.heap.size + 1, 0, none⟩) (L 1).length (L 1).length, .slice (some ⟨U.heap.size + 1 + 1, 0, none⟩) (L 2).length (L 2).length, .slice (some ⟨U.heap.size + 1 + 1 + 1, 0, none⟩) (L 3).length (L 3).length] t2)
  have e2 := ((lz_lit (L 2) ((U.alloc (.cells (lsv (L 0)).toArray t)).alloc (.cells (lsv (L 1)).toArray t)) t).more (.cells (lsv (L 3)).toArray t)).more (.cells #[.slice (some ⟨U.heap.size, 0, none⟩) (L 0).length (L 0).length, .slice (some ⟨U.heap.size + 1, 0, none⟩) (L 1).length (L 1).length, .slice (some ⟨U.heap.size + 1 + 1, 0, none⟩) (L 2).length (L 2).length, .slice (some ⟨U.heap.size + 1 + 1 + 1, 0, none⟩) (L 3).length (L 3).length] t2)
  have e3 := (lz_lit (L 3) (((U.alloc (.cells (lsv (L 0)).toArray t)).alloc (.cells (lsv (L 1)).toArray t)).alloc (.cells (lsv (L 2)).toArray t)) t).more (.cells #[.slice (some ⟨U.heap.size, 0, none⟩) (L 0).length (L 0).length, .slice (some ⟨U.heap.size + 1, 0, none⟩) (L 1).length (L 1).length, .slice (some ⟨U.heap.size + 1 + 1, 0, none⟩) (L 2).length (L 2).length, .slice (some ⟨U.heap.size + 1 + 1 + 1, 0, none⟩) (L 3).length (L 3).length] t2)
  have bx := Box.new ((((U.alloc (.cells (lsv (L 0)).toArray t)).alloc (.cells (lsv (L 1)).toArray t)).alloc (.cells (lsv (L 2)).toArray t)).alloc (.cells (lsv (L 3)).toArray t)) #[.slice (some ⟨U.heap.size, 0, none⟩) (L 0).length (L 0).length, .slice (some ⟨U.heap.size + 1, 0, none⟩) (L 1).length (L 1).length, .slice (some ⟨U.heap.size + 1 + 1, 0, none⟩) (L 2).length (L 2).length, .slice (some ⟨U.heap.size + 1 + 1 + 1, 0, none⟩) (L 3).length (L 3).length] t2
  simp only [World.size_alloc] at e0 e1 e2 e3 bx
  intro _
  refine ⟨_, 0, rfl, bx.lt, fun c hc => ?_⟩
  obtain rfl | rfl | rfl | rfl : c = 0 ∨ c = 1 ∨ c = 2 ∨ c = 3 := by omega
  · exact ⟨_, _, bx.cell 0, e0⟩
  · exact ⟨_, _, bx.cell 1, e1⟩
  · exact ⟨_, _, bx.cell 2, e2⟩
  · exact ⟨_, _, bx.cell 3, e3⟩
theorem vlit (U : World) (l : List Nat) (t : TypeId) (k x : Nat) (hl : el k x = l) : Lz (U.alloc (.cells (lsv (ints l)).toArray t)) (some ⟨U.heap.size, 0, none⟩) (el k x).length (lz (el k x)) := by
  rw [hl]
  have h := lz_lit (ints l) U t
  rw [ints_len] at h
  exact h.congr fun i _ => ints_at l i
theorem al1 (U : World) (o : Obj) : Below U.heap.size U (U.alloc o) := (Below.refl _ _).alloc (Nat.le_refl _) o

end Go.Proofs.YtbefkngeffpokaaDoor
