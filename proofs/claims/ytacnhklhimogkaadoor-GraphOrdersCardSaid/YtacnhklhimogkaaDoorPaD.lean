/- The text of a graph is read as it: in plain numbers. -/
import Derived.Test.YtacnhklhimogkaaDoorPaC
namespace Go.Proofs.YtacnhklhimogkaaDoor
set_option linter.unusedVariables false
set_option linter.unusedSimpArgs false
open Go.RowKit

theorem gtx_split {n : Nat} {a : Nat → Nat} (ha : WF n a) : npart (gtx n a) = n ∧ parts (gtx n a) = (List.range n).map fun p => rtx (a p) n := by
  have h1 : 1 ≤ n := ha.1.1
  have h5 : n ≤ 5 := ha.1.2
  have hd : (gtx n a).data.toList = Lib.join (((List.range n).map fun p => rtx (a p) n).map (·.data.toList)) [32] := List.toList_toArray
  have hb : ∀ y ∈ (List.range n).map (fun p => rtx (a p) n), ∀ b ∈ y.data.toList, b ≠ 32 := by
    intro y hy
    obtain ⟨p, _, rfl⟩ := List.mem_map.1 hy
    rw [rtx_data (a p) n h5]
    exact rtl_ne (a p) n h5
  have hl : ((List.range n).map fun p => rtx (a p) n).length = n := by rw [List.length_map, List.length_range]
  cases hL : (List.range n).map (fun p => rtx (a p) n) with
  | nil => rw [hL] at hl; simp at hl; omega
  | cons x r =>
    rw [hL] at hd hb hl
    obtain ⟨e1, e2⟩ := splitB_join 32 x r hb (gtx n a) hd
    have hr : r.length + 1 = n := by simpa using hl
    refine ⟨?_, ?_⟩
    · unfold npart
      rw [e1]; exact hr
    · unfold parts
      rw [e1]; exact e2

theorem gtx_prt {n : Nat} {a : Nat → Nat} (ha : WF n a) {p : Nat} (hp : p < 5) : prt (gtx n a) p = a p := by
  have h5 : n ≤ 5 := ha.1.2
  obtain ⟨e1, e2⟩ := gtx_split ha
  by_cases hn : p < n
  · unfold prt
    rw [e2, List.getD_eq_getElem?_getD, List.getElem?_map, List.getElem?_range hn]
    exact orb_row h5 (ha.2.1 p hn).1
  · rw [prt_off _ (by omega), ha.2.2 p (by omega) hp]

theorem gtx_congr {n : Nat} {a b : Nat → Nat} (h : ∀ p, p < n → a p = b p) : gtx n a = gtx n b := by
  unfold gtx
  have e : (List.range n).map (fun p => rtx (a p) n) = (List.range n).map (fun p => rtx (b p) n) := List.map_congr_left (fun p hp => by rw [h p (List.mem_range.1 hp)])
  rw [e]

theorem wf_congr {n : Nat} {a b : Nat → Nat} (ha : WF n a) (h : ∀ p, p < 5 → b p = a p) : WF n b :=
  ⟨ha.1, fun p hp => by rw [h p (by have := ha.1; omega)]; exact ha.2.1 p hp, fun p hp h5 => by rw [h p h5]; exact ha.2.2 p hp h5⟩

theorem gtx_isText {n : Nat} {a : Nat → Nat} (ha : WF n a) : IsText (gtx n a) := by
  have e1 := (gtx_split ha).1
  have hp : ∀ p, p < 5 → prt (gtx n a) p = a p := fun p hp => gtx_prt ha hp
  refine ⟨by rw [e1]; exact ha.1.2, by rw [e1]; exact wf_congr ha hp, ?_⟩
  rw [e1]
  exact gtx_congr (fun p h => hp p (by have := ha.1; omega))

/-- Different graphs have different texts. -/
theorem gtx_inj {n m : Nat} {a b : Nat → Nat} (ha : WF n a) (hb : WF m b) (h : gtx n a = gtx m b) : n = m ∧ ∀ p, p < 5 → a p = b p := by
  have e : n = m := by rw [← (gtx_split ha).1, h]; exact (gtx_split hb).1
  exact ⟨e, fun p hp => by rw [← gtx_prt ha hp, h]; exact gtx_prt hb hp⟩
end Go.Proofs.YtacnhklhimogkaaDoor
