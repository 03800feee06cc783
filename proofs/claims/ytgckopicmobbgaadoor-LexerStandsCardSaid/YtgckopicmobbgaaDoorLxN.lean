/- Rows of tokens; Same; the lists of the example. -/
import Derived.Test.YtgckopicmobbgaaDoorLxJ
import Derived.Test.YtgckopicmobbgaaDoorLxQ
import Derived.WalkKit
import Derived.WalkSpells
import Derived.WalkLawsBesides
import Derived.Handy
import Derived.Deep.QuietTactic
import Derived.BigQuiet
import Derived.Outline
import Derived.Laws.BitsAllLaws
import Derived.IntWalk
import Derived.Lib.SmallJoins
import Derived.Lib.Hide
import Derived.Deep.DeepCutAuto
import Derived.LoopTactic
import Derived.Deep.RegionWith
import Derived.Lib.ConvBytes
import Derived.OwnWalk
import Derived.Laws.MakeOwn
import Derived.Laws.IdiomStrings
namespace Go.Proofs.YtgckopicmobbgaaDoor
set_option linter.unusedVariables false
set_option linter.unusedSimpArgs false
open Go.RowKit Lex

/-- What the laws want of their first world. -/
structure WG (w : World) : Prop where
  sg : StrTab w 1 sgT
  rs : StrTab w 0 rsT
  ml : 2 < w.heap.size ∧ ∃ m, w.cell? ⟨2, 0, none⟩ = some (.int .i64 m)
theorem WG.below {w W : World} (h : WG w) (hb : Below w.heap.size w W) : WG W :=
  ⟨h.sg.below hb, h.rs.below hb, Nat.lt_of_lt_of_le h.ml.1 hb.size, by
    obtain ⟨m, hm⟩ := h.ml.2
    exact ⟨m, (hb.cell (p := ⟨2, 0, none⟩) h.ml.1).trans hm⟩⟩
def tkj (t : Tk) : Tj := ⟨(t.kd : Int), t.tx, (t.pl : Int)⟩
theorem flatT_at : ∀ (l : List Tk) (i : Nat), i < l.length → (flatT l)[i * 3]? = some (.int .i64 ((l.map tkj).getD i default).kd) ∧ (flatT l)[i * 3 + 1]? = some (.string (mk ((l.map tkj).getD i default).tx)) ∧ (flatT l)[i * 3 + 2]? = some (.int .i64 ((l.map tkj).getD i default).pl)
  | [], i, h => by simp at h
  | t :: r, 0, _ => ⟨rfl, rfl, rfl⟩
  | t :: r, i + 1, h => by
    have ih := flatT_at r i (by simpa using h)
    have e : flatT (t :: r) = tkCells t ++ flatT r := rfl
    have hl : (tkCells t).length = 3 := rfl
    rw [e]
    refine ⟨?_, ?_, ?_⟩
    · rw [List.getElem?_append_right (by omega), hl, show (i + 1) * 3 - 3 = i * 3 by omega]; exact ih.1
    · rw [List.getElem?_append_right (by omega), hl, show (i + 1) * 3 + 1 - 3 = i * 3 + 1 by omega]; exact ih.2.1
    · rw [List.getElem?_append_right (by omega), hl, show (i + 1) * 3 + 2 - 3 = i * 3 + 2 by omega]; exact ih.2.2
theorem flatT_len (l : List Tk) : (flatT l).length = l.length * 3 := by
  induction l with
  | nil => rfl
  | cons t r ih =>
    show (tkCells t ++ flatT r).length = _
    rw [List.length_append, ih]
    simp [tkCells]
    omega
/-- A row of tokens that a call has made lies in memory. -/
theorem RowT.shape {w : World} {R : Nat} {v : Value} {l : List Tk} (h : RowT w R v l) : ∃ o cap, v = .slice o l.length cap ∧ Lt w o (l.map tkj) := by
  rcases h.2 with ⟨h0, h1⟩ | ⟨g, cap, cur, h0, hHL, hLc, hcl, hcm, hcs, htk⟩
  · have : l = [] := List.eq_nil_of_length_eq_zero h1
    subst this
    exact ⟨none, 0, h0, fun h => by simp at h⟩
  · refine ⟨_, cap, h0, fun hn => ⟨g, 0, rfl, (Array.getElem?_eq_some_iff.1 hLc).1, fun i hi => ?_⟩⟩
    rw [List.length_map] at hi
    obtain ⟨e1, e2, e3⟩ := flatT_at l i hi
    have key : ∀ j x, (flatT l)[j]? = some x → w.cell? ⟨g, 0 + j, none⟩ = some x := fun j x hx => by
      rw [Nat.zero_add, Joins.cell_of_block hLc, ← hx, ← htk, List.getElem?_take]
      have hj : j < (flatT l).length := (List.getElem?_eq_some_iff.1 hx).1
      rw [flatT_len] at hj
      rw [if_pos hj, Array.getElem?_toList]
    have k1 := key (i * 3 + 1) _ e2
    have k2 := key (i * 3 + 2) _ e3
    exact ⟨key _ _ e1, by rw [Nat.add_assoc]; exact k1, by rw [Nat.add_assoc]; exact k2⟩
theorem tok_eqin (a c a' c' : Int) (s s' : ByteArray) (w : World) : (Op.equalIn 10000 32 (.agg #[.int .i64 a, .string s, .int .i64 c]) (.agg #[.int .i64 a', .string s', .int .i64 c'])).run Tryd.prog w = .ok ((a == a') && ((s.toList == s'.toList) && (c == c'))) w := by
  simp [go_sem]
  by_cases h0 : a = a' <;> by_cases h1 : s.toList = s'.toList <;> by_cases h2 : c = c' <;> simp [h0, h1, h2]
theorem tok_ne (a c : Int) (s : ByteArray) (w : World) : (binOp .neq 32 (.agg #[.int .i64 a, .string s, .int .i64 c]) (.agg #[.int .i64 a, .string s, .int .i64 c])).run Tryd.prog w = .ok (.bool false) w := by
  rw [run_neq_struct, tok_eqin]
  simp [Result.andThen]
set_option maxRecDepth 100000 in
set_option maxHeartbeats 1000000 in
theorem same_ok (l : List Tj) (hl : l.length ≤ 1000000) (o p : Option Addr) (cap cap' : Nat) (w : World) (hL : Lt w o l) (hL' : Lt w p l) : Calls Tryd.prog 15 #[.slice o l.length cap, .slice p l.length cap'] w fun e w' => e = .returned (.bool true) ∧ Below w.heap.size w w' := by
  have HL := Lib.hid hL
  have HL' := Lib.hid hL'
  obtain ⟨n, hn⟩ : ∃ n, l.length = n := ⟨_, rfl⟩
  rw [hn] at hl ⊢
  have HN := Lib.hid hn
  have hne := tok_ne
  have heq := tok_eqin
  clear hL hL' hn
  go_enter Tryd.func15, Tryd.ntmps15
  go_wp2_with fail
  go_loopw [5] (fun j wr => ∃ i : Nat, i ≤ n ∧ j = .int .i64 (i : Int) ∧ ∃ d, wr = w.drewN d) (fun j _ => n - (intOf j).toNat)
  case atStart => exact ⟨0, by omega, by first | trivial | rfl, 0, rfl⟩
  case round =>
    obtain ⟨i, hi, rfl, d, rfl⟩ := hrel
    have hbe : Below w.heap.size w (w.drewN d) := below_dn d (Below.refl _ _)
    by_cases hlt : i < n
    · have hi1 : (i : Int) < (n : Int) := by omega
      have hi0 : (0 : Int) ≤ (i : Int) := by omega
      obtain ⟨b1, o1, rfl, hb1, hc1⟩ := HL.out (by rw [HN.out]; omega)
      obtain ⟨b2, o2, rfl, hb2, hc2⟩ := HL'.out (by rw [HN.out]; omega)
      obtain ⟨x0, x1, x2⟩ := hc1 i (by rw [HN.out]; exact hlt)
      obtain ⟨y0, y1, y2⟩ := hc2 i (by rw [HN.out]; exact hlt)
      obtain ⟨t, ht⟩ : ∃ t, l.getD i default = t := ⟨_, rfl⟩
      obtain ⟨kd, tx, pl⟩ := t
      rw [ht] at x0 x1 x2 y0 y1 y2
      dsimp only at x0 x1 x2 y0 y1 y2
      obtain ⟨tb, htb⟩ : ∃ tb, mk tx = tb := ⟨_, rfl⟩
      rw [htb] at x1 y1
      clear hc1 hc2 ht htb
      go_wp2_with fail
      go_quiet (fail)
      go_wp2_with fail
      go_roundw
      case rel => exact ⟨i + 1, by omega, by go_num, _, rfl⟩
      case measure => simp [intOf]; omega
    · obtain rfl : i = n := by omega
      clear hlt
      go_wp2_with fail
      go_ret
      exact ⟨rfl, below_dn _ (Below.refl _ _)⟩
def wantJ : List Tj := [⟨0, [116, 97, 115, 107], 0⟩, ⟨0, [120], 5⟩, ⟨0, [97], 13⟩, ⟨2, [60, 61], 14⟩, ⟨1, [49, 50], 16⟩, ⟨3, [], 18⟩]
theorem wantJ_few : FewJ wantJ := ⟨by decide, by decide, by decide, by decide⟩
set_option maxRecDepth 100000 in
theorem wantJ_lies (w : World) : Lt (w.alloc (.cells #[.int .i64 0, .string { data := #[116, 97, 115, 107] }, .int .i64 0, .int .i64 0, .string { data := #[120] }, .int .i64 5, .int .i64 0, .string { data := #[97] }, .int .i64 13, .int .i64 2, .string { data := #[60, 61] }, .int .i64 14, .int .i64 1, .string { data := #[49, 50] }, .int .i64 16, .int .i64 3, .string { data := #[] }, .int .i64 18] 32)) (some ⟨w.heap.size, 0, none⟩) wantJ := fun _ => by
  refine ⟨_, 0, rfl, by simp, fun i hi => ?_⟩
  have hi2 : i < 6 := hi
  obtain rfl | rfl | rfl | rfl | rfl | rfl : i = 0 ∨ i = 1 ∨ i = 2 ∨ i = 3 ∨ i = 4 ∨ i = 5 := by omega
  · exact ⟨World.cell?_alloc_mark w #[.int .i64 0, .string { data := #[116, 97, 115, 107] }, .int .i64 0, .int .i64 0, .string { data := #[120] }, .int .i64 5, .int .i64 0, .string { data := #[97] }, .int .i64 13, .int .i64 2, .string { data := #[60, 61] }, .int .i64 14, .int .i64 1, .string { data := #[49, 50] }, .int .i64 16, .int .i64 3, .string { data := #[] }, .int .i64 18] 32 (0, 0) 0, World.cell?_alloc_mark w #[.int .i64 0, .string { data := #[116, 97, 115, 107] }, .int .i64 0, .int .i64 0, .string { data := #[120] }, .int .i64 5, .int .i64 0, .string { data := #[97] }, .int .i64 13, .int .i64 2, .string { data := #[60, 61] }, .int .i64 14, .int .i64 1, .string { data := #[49, 50] }, .int .i64 16, .int .i64 3, .string { data := #[] }, .int .i64 18] 32 (0, 0) 1, World.cell?_alloc_mark w #[.int .i64 0, .string { data := #[116, 97, 115, 107] }, .int .i64 0, .int .i64 0, .string { data := #[120] }, .int .i64 5, .int .i64 0, .string { data := #[97] }, .int .i64 13, .int .i64 2, .string { data := #[60, 61] }, .int .i64 14, .int .i64 1, .string { data := #[49, 50] }, .int .i64 16, .int .i64 3, .string { data := #[] }, .int .i64 18] 32 (0, 0) 2⟩
  · exact ⟨World.cell?_alloc_mark w #[.int .i64 0, .string { data := #[116, 97, 115, 107] }, .int .i64 0, .int .i64 0, .string { data := #[120] }, .int .i64 5, .int .i64 0, .string { data := #[97] }, .int .i64 13, .int .i64 2, .string { data := #[60, 61] }, .int .i64 14, .int .i64 1, .string { data := #[49, 50] }, .int .i64 16, .int .i64 3, .string { data := #[] }, .int .i64 18] 32 (0, 0) 3, World.cell?_alloc_mark w #[.int .i64 0, .string { data := #[116, 97, 115, 107] }, .int .i64 0, .int .i64 0, .string { data := #[120] }, .int .i64 5, .int .i64 0, .string { data := #[97] }, .int .i64 13, .int .i64 2, .string { data := #[60, 61] }, .int .i64 14, .int .i64 1, .string { data := #[49, 50] }, .int .i64 16, .int .i64 3, .string { data := #[] }, .int .i64 18] 32 (0, 0) 4, World.cell?_alloc_mark w #[.int .i64 0, .string { data := #[116, 97, 115, 107] }, .int .i64 0, .int .i64 0, .string { data := #[120] }, .int .i64 5, .int .i64 0, .string { data := #[97] }, .int .i64 13, .int .i64 2, .string { data := #[60, 61] }, .int .i64 14, .int .i64 1, .string { data := #[49, 50] }, .int .i64 16, .int .i64 3, .string { data := #[] }, .int .i64 18] 32 (0, 0) 5⟩
  · exact ⟨World.cell?_alloc_mark w #[.int .i64 0, .string { data := #[116, 97, 115, 107] }, .int .i64 0, .int .i64 0, .string { data := #[120] }, .int .i64 5, .int .i64 0, .string { data := #[97] }, .int .i64 13, .int .i64 2, .string { data := #[60, 61] }, .int .i64 14, .int .i64 1, .string { data := #[49, 50] }, .int .i64 16, .int .i64 3, .string { data := #[] }, .int .i64 18] 32 (0, 0) 6, World.cell?_alloc_mark w #[.int .i64 0, .string { data := #[116, 97, 115, 107] }, .int .i64 0, .int .i64 0, .string { data := #[120] }, .int .i64 5, .int .i64 0, .string { data := #[97] }, .int .i64 13, .int .i64 2, .string { data := #[60, 61] }, .int .i64 14, .int .i64 1, .string { data := #[49, 50] }, .int .i64 16, .int .i64 3, .string { data := #[] }, .int .i64 18] 32 (0, 0) 7, World.cell?_alloc_mark w #[.int .i64 0, .string { data := #[116, 97, 115, 107] }, .int .i64 0, .int .i64 0, .string { data := #[120] }, .int .i64 5, .int .i64 0, .string { data := #[97] }, .int .i64 13, .int .i64 2, .string { data := #[60, 61] }, .int .i64 14, .int .i64 1, .string { data := #[49, 50] }, .int .i64 16, .int .i64 3, .string { data := #[] }, .int .i64 18] 32 (0, 0) 8⟩
  · exact ⟨World.cell?_alloc_mark w #[.int .i64 0, .string { data := #[116, 97, 115, 107] }, .int .i64 0, .int .i64 0, .string { data := #[120] }, .int .i64 5, .int .i64 0, .string { data := #[97] }, .int .i64 13, .int .i64 2, .string { data := #[60, 61] }, .int .i64 14, .int .i64 1, .string { data := #[49, 50] }, .int .i64 16, .int .i64 3, .string { data := #[] }, .int .i64 18] 32 (0, 0) 9, World.cell?_alloc_mark w #[.int .i64 0, .string { data := #[116, 97, 115, 107] }, .int .i64 0, .int .i64 0, .string { data := #[120] }, .int .i64 5, .int .i64 0, .string { data := #[97] }, .int .i64 13, .int .i64 2, .string { data := #[60, 61] }, .int .i64 14, .int .i64 1, .string { data := #[49, 50] }, .int .i64 16, .int .i64 3, .string { data := #[] }, .int .i64 18] 32 (0, 0) 10, World.cell?_alloc_mark w #[.int .i64 0, .string { data := #[116, 97, 115, 107] }, .int .i64 0, .int .i64 0, .string { data := #[120] }, .int .i64 5, .int .i64 0, .string { data := #[97] }, .int .i64 13, .int .i64 2, .string { data := #[60, 61] }, .int .i64 14, .int .i64 1, .string { data := #[49, 50] }, .int .i64 16, .int .i64 3, .string { data := #[] }, .int .i64 18] 32 (0, 0) 11⟩
  · exact ⟨World.cell?_alloc_mark w #[.int .i64 0, .string { data := #[116, 97, 115, 107] }, .int .i64 0, .int .i64 0, .string { data := #[120] }, .int .i64 5, .int .i64 0, .string { data := #[97] }, .int .i64 13, .int .i64 2, .string { data := #[60, 61] }, .int .i64 14, .int .i64 1, .string { data := #[49, 50] }, .int .i64 16, .int .i64 3, .string { data := #[] }, .int .i64 18] 32 (0, 0) 12, World.cell?_alloc_mark w #[.int .i64 0, .string { data := #[116, 97, 115, 107] }, .int .i64 0, .int .i64 0, .string { data := #[120] }, .int .i64 5, .int .i64 0, .string { data := #[97] }, .int .i64 13, .int .i64 2, .string { data := #[60, 61] }, .int .i64 14, .int .i64 1, .string { data := #[49, 50] }, .int .i64 16, .int .i64 3, .string { data := #[] }, .int .i64 18] 32 (0, 0) 13, World.cell?_alloc_mark w #[.int .i64 0, .string { data := #[116, 97, 115, 107] }, .int .i64 0, .int .i64 0, .string { data := #[120] }, .int .i64 5, .int .i64 0, .string { data := #[97] }, .int .i64 13, .int .i64 2, .string { data := #[60, 61] }, .int .i64 14, .int .i64 1, .string { data := #[49, 50] }, .int .i64 16, .int .i64 3, .string { data := #[] }, .int .i64 18] 32 (0, 0) 14⟩
  · exact ⟨World.cell?_alloc_mark w #[.int .i64 0, .string { data := #[116, 97, 115, 107] }, .int .i64 0, .int .i64 0, .string { data := #[120] }, .int .i64 5, .int .i64 0, .string { data := #[97] }, .int .i64 13, .int .i64 2, .string { data := #[60, 61] }, .int .i64 14, .int .i64 1, .string { data := #[49, 50] }, .int .i64 16, .int .i64 3, .string { data := #[] }, .int .i64 18] 32 (0, 0) 15, World.cell?_alloc_mark w #[.int .i64 0, .string { data := #[116, 97, 115, 107] }, .int .i64 0, .int .i64 0, .string { data := #[120] }, .int .i64 5, .int .i64 0, .string { data := #[97] }, .int .i64 13, .int .i64 2, .string { data := #[60, 61] }, .int .i64 14, .int .i64 1, .string { data := #[49, 50] }, .int .i64 16, .int .i64 3, .string { data := #[] }, .int .i64 18] 32 (0, 0) 16, World.cell?_alloc_mark w #[.int .i64 0, .string { data := #[116, 97, 115, 107] }, .int .i64 0, .int .i64 0, .string { data := #[120] }, .int .i64 5, .int .i64 0, .string { data := #[97] }, .int .i64 13, .int .i64 2, .string { data := #[60, 61] }, .int .i64 14, .int .i64 1, .string { data := #[49, 50] }, .int .i64 16, .int .i64 3, .string { data := #[] }, .int .i64 18] 32 (0, 0) 17⟩
def twoJ : List Tj := [⟨0, [97], 0⟩, ⟨2, [60], 0⟩, ⟨2, [61], 0⟩, ⟨1, [49], 0⟩]
theorem twoJ_few : FewJ twoJ := ⟨by decide, by decide, by decide, by decide⟩
set_option maxRecDepth 100000 in
theorem twoJ_lies (w : World) : Lt (w.alloc (.cells #[.int .i64 0, .string { data := #[97] }, .int .i64 0, .int .i64 2, .string { data := #[60] }, .int .i64 0, .int .i64 2, .string { data := #[61] }, .int .i64 0, .int .i64 1, .string { data := #[49] }, .int .i64 0] 32)) (some ⟨w.heap.size, 0, none⟩) twoJ := fun _ => by
  refine ⟨_, 0, rfl, by simp, fun i hi => ?_⟩
  have hi2 : i < 4 := hi
  obtain rfl | rfl | rfl | rfl : i = 0 ∨ i = 1 ∨ i = 2 ∨ i = 3 := by omega
  · exact ⟨World.cell?_alloc_mark w #[.int .i64 0, .string { data := #[97] }, .int .i64 0, .int .i64 2, .string { data := #[60] }, .int .i64 0, .int .i64 2, .string { data := #[61] }, .int .i64 0, .int .i64 1, .string { data := #[49] }, .int .i64 0] 32 (0, 0) 0, World.cell?_alloc_mark w #[.int .i64 0, .string { data := #[97] }, .int .i64 0, .int .i64 2, .string { data := #[60] }, .int .i64 0, .int .i64 2, .string { data := #[61] }, .int .i64 0, .int .i64 1, .string { data := #[49] }, .int .i64 0] 32 (0, 0) 1, World.cell?_alloc_mark w #[.int .i64 0, .string { data := #[97] }, .int .i64 0, .int .i64 2, .string { data := #[60] }, .int .i64 0, .int .i64 2, .string { data := #[61] }, .int .i64 0, .int .i64 1, .string { data := #[49] }, .int .i64 0] 32 (0, 0) 2⟩
  · exact ⟨World.cell?_alloc_mark w #[.int .i64 0, .string { data := #[97] }, .int .i64 0, .int .i64 2, .string { data := #[60] }, .int .i64 0, .int .i64 2, .string { data := #[61] }, .int .i64 0, .int .i64 1, .string { data := #[49] }, .int .i64 0] 32 (0, 0) 3, World.cell?_alloc_mark w #[.int .i64 0, .string { data := #[97] }, .int .i64 0, .int .i64 2, .string { data := #[60] }, .int .i64 0, .int .i64 2, .string { data := #[61] }, .int .i64 0, .int .i64 1, .string { data := #[49] }, .int .i64 0] 32 (0, 0) 4, World.cell?_alloc_mark w #[.int .i64 0, .string { data := #[97] }, .int .i64 0, .int .i64 2, .string { data := #[60] }, .int .i64 0, .int .i64 2, .string { data := #[61] }, .int .i64 0, .int .i64 1, .string { data := #[49] }, .int .i64 0] 32 (0, 0) 5⟩
  · exact ⟨World.cell?_alloc_mark w #[.int .i64 0, .string { data := #[97] }, .int .i64 0, .int .i64 2, .string { data := #[60] }, .int .i64 0, .int .i64 2, .string { data := #[61] }, .int .i64 0, .int .i64 1, .string { data := #[49] }, .int .i64 0] 32 (0, 0) 6, World.cell?_alloc_mark w #[.int .i64 0, .string { data := #[97] }, .int .i64 0, .int .i64 2, .string { data := #[60] }, .int .i64 0, .int .i64 2, .string { data := #[61] }, .int .i64 0, .int .i64 1, .string { data := #[49] }, .int .i64 0] 32 (0, 0) 7, World.cell?_alloc_mark w #[.int .i64 0, .string { data := #[97] }, .int .i64 0, .int .i64 2, .string { data := #[60] }, .int .i64 0, .int .i64 2, .string { data := #[61] }, .int .i64 0, .int .i64 1, .string { data := #[49] }, .int .i64 0] 32 (0, 0) 8⟩
  · exact ⟨World.cell?_alloc_mark w #[.int .i64 0, .string { data := #[97] }, .int .i64 0, .int .i64 2, .string { data := #[60] }, .int .i64 0, .int .i64 2, .string { data := #[61] }, .int .i64 0, .int .i64 1, .string { data := #[49] }, .int .i64 0] 32 (0, 0) 9, World.cell?_alloc_mark w #[.int .i64 0, .string { data := #[97] }, .int .i64 0, .int .i64 2, .string { data := #[60] }, .int .i64 0, .int .i64 2, .string { data := #[61] }, .int .i64 0, .int .i64 1, .string { data := #[49] }, .int .i64 0] 32 (0, 0) 10, World.cell?_alloc_mark w #[.int .i64 0, .string { data := #[97] }, .int .i64 0, .int .i64 2, .string { data := #[60] }, .int .i64 0, .int .i64 2, .string { data := #[61] }, .int .i64 0, .int .i64 1, .string { data := #[49] }, .int .i64 0] 32 (0, 0) 11⟩

end Go.Proofs.YtgckopicmobbgaaDoor
