/- slices.Sort and slices.Contains of integers. -/
import Derived.Test.YtbefkngeffpokaaDoorMyF
import Derived.WalkKit
import Derived.WalkSpells
import Derived.WalkLawsBesides
import Derived.Handy
import Derived.Deep.QuietTactic
import Derived.BigQuiet
import Derived.Outline
import Derived.Laws.BitsAllLaws
import Derived.IntWalk
import Derived.Lib.SmallJoins
import Derived.Lib.Hide
import Derived.Deep.DeepCutAuto
import Derived.LoopTactic
import Derived.Deep.RegionWith
import Derived.Laws.CopyOwn
import Derived.Maps.OwnOps
import Derived.Maps.OwnSet
import Derived.Laws.OwnMore
import Derived.Maps.AppendAt
import Derived.RangeFuncNested
import Derived.RangeFuncBound
import Derived.RangeFuncCalls
import Derived.RangeFuncLeaves
import Derived.RangeFuncBox
import Derived.RangeFuncFrom
import Derived.Shelf.Abstract
import Derived.Shelf.RegionOpen
import Derived.OwnWalkIn
import Derived.TacticsInMore
import Derived.LoopNIn
import Derived.LoopIn
import Derived.Deep.RegionHeld3
import Derived.RegionTactic
import Derived.ChangeAlike
import Derived.Test.YtbefkngeffpokaaDoorShelf
import Derived.Sort.OwnSortedInts
namespace Go.Proofs.YtbefkngeffpokaaDoor
set_option linter.unusedVariables false
set_option linter.unusedSimpArgs false
open Go.RowKit


theorem srt_len (l : List Int) : (srt l).length = l.length := (List.mergeSort_perm _ _).length_eq
open Go.Sort in
theorem sort_ok : SortP := by
  intro l B v W hll hBW h
  rcases h.2 with ⟨rfl, h0⟩ | ⟨g, cap, cur, rfl, hB, hb, hn, hm, hs, ht⟩
  · have hl : l = [] := List.eq_nil_of_length_eq_zero h0
    subst hl
    refine (Tryd.slices_Sort_int_none none 0 W).mono ?_
    rintro e w' ⟨rfl, rfl⟩
    exact ⟨rfl, ⟨rfl, rfl, rfl, Nat.le_refl _, fun _ _ _ => rfl⟩, by rw [show srt [] = [] from by simp [srt]]; exact Row.nil _ _⟩
  · have ht2 : cur.toList.take l.length = l.map (Value.int .i64) := by rw [Nat.mul_one] at ht; exact ht
    have hr := Tryd.slices_Sort_int g 0 cap l W (holds_of_blockI hb ht2) (Array.getElem?_eq_some_iff.1 hb).1 (by omega)
    refine hr.mono ?_
    rintro e w' ⟨rfl, q, os, rfl⟩
    refine ⟨rfl, grownBy_sortedI (srt l).toArray, ?_⟩
    have h2 := ownsRow_sortedI (n := q) (os := os) (ss := l) (ts := srt l) (srt_len l) hB hb hn hm hs
    unfold Row
    rw [srt_len]
    exact h2
theorem contains_any (l : List Nat) (hl : l.length ≤ 1000000) (c : Nat) (o : Option Addr) (cap : Nat) (w : World) (hL : Lz w o l.length (lz l)) : Calls Tryd.prog 41 #[.slice o l.length cap, .int .i64 (c : Int)] w fun e w' => e = .returned (.bool (decide (c ∈ l))) ∧ w' = w := by
  by_cases h0 : 0 < l.length
  · obtain ⟨b, off, rfl, hb, hc⟩ := hL h0
    have h := Tryd.slices_Contains_int b off l.length cap (ints l) (c : Int) w (by rw [ints_len]; exact Nat.le_refl _) (by omega) (fun j hj => by
      rw [ints_len] at hj
      rw [hc j hj, ints_at])
    refine h.mono ?_
    rintro e w' ⟨rfl, rfl⟩
    refine ⟨?_, rfl⟩
    have e1 : (ints l).take l.length = ints l := List.take_of_length_le (by rw [ints_len]; exact Nat.le_refl _)
    rw [e1]
    congr 2
    rw [Bool.eq_iff_iff, List.contains_iff_mem, decide_eq_true_iff]
    unfold ints
    rw [List.mem_map]
    exact ⟨fun ⟨x, hx, e⟩ => by have : x = c := by omega
                                rw [← this]; exact hx, fun h => ⟨c, h, rfl⟩⟩
  · have hl : l = [] := List.eq_nil_of_length_eq_zero (by omega)
    subst hl
    refine (Tryd.slices_Contains_int_empty o cap (c : Int) w).mono ?_
    rintro e w' ⟨rfl, rfl⟩
    exact ⟨by simp, rfl⟩

end Go.Proofs.YtbefkngeffpokaaDoor
