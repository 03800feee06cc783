/- Rows of bytes; cut at a line feed. -/
import Derived.Test.YtgckopicmobbgaaDoorLxK
import Derived.WalkKit
import Derived.WalkSpells
import Derived.WalkLawsBesides
import Derived.Handy
import Derived.Deep.QuietTactic
import Derived.BigQuiet
import Derived.Outline
import Derived.Laws.BitsAllLaws
import Derived.IntWalk
import Derived.Lib.SmallJoins
import Derived.Lib.Hide
import Derived.Deep.DeepCutAuto
import Derived.LoopTactic
import Derived.Deep.RegionWith
import Derived.Lib.ConvBytes
import Derived.OwnWalk
import Derived.Laws.MakeOwn
import Derived.Laws.IdiomStrings
namespace Go.Proofs.YtgckopicmobbgaaDoor
set_option linter.unusedVariables false
set_option linter.unusedSimpArgs false
open Go.RowKit Lex

theorem index_lf : ∀ l : List UInt8, (0 ≤ Lib.index l [10] → (Lib.index l [10]).toNat = hdN ne10 (l.map (·.toNat)) ∧ Lib.index l [10] = ((hdN ne10 (l.map (·.toNat)) : Nat) : Int)) ∧ (¬ 0 ≤ Lib.index l [10] → hdN ne10 (l.map (·.toNat)) = l.length)
  | [] => ⟨fun h => by simp [Lib.index] at h, fun _ => rfl⟩
  | x :: r => by
    have ih := index_lf r
    have hge := Lib.index_ge r [10]
    by_cases hx : x = 10
    · subst hx
      have e : Lib.index ((10 : UInt8) :: r) [10] = 0 := by simp [Lib.index]
      have e2 : hdN ne10 (((10 : UInt8) :: r).map (·.toNat)) = 0 := hdN_no (by decide)
      rw [e, e2]
      exact ⟨fun _ => ⟨rfl, rfl⟩, fun h => absurd (Int.le_refl 0) h⟩
    · have hp : List.isPrefixOf [10] (x :: r) = false := by
        simp [List.isPrefixOf, Ne.symm hx]
      have hx2 : ne10 x.toNat = true := by
        unfold ne10
        rw [decide_eq_true_iff]
        intro h
        exact hx (UInt8.toNat_inj.1 h)
      have e2 : hdN ne10 ((x :: r).map (·.toNat)) = hdN ne10 (r.map (·.toNat)) + 1 := hdN_yes hx2
      have e : Lib.index (x :: r) [10] = if Lib.index r [10] == -1 then -1 else Lib.index r [10] + 1 := by
        rw [Lib.index, hp]
        rfl
      rw [e2, e]
      by_cases hm : Lib.index r [10] = -1
      · rw [hm, if_pos (by decide)]
        refine ⟨fun h => by omega, fun _ => ?_⟩
        rw [ih.2 (by rw [hm]; decide)]
        rfl
      · rw [if_neg (by simpa using hm)]
        have h0 : 0 ≤ Lib.index r [10] := by omega
        obtain ⟨i1, i2⟩ := ih.1 h0
        exact ⟨fun _ => ⟨by omega, by omega⟩, fun h => by omega⟩
theorem cut_lf (s : ByteArray) : (⟨(Lib.cut s.data.toList [10]).1.toArray⟩ : ByteArray) = mk ((bl s).take (hdN ne10 (bl s))) := by
  have h := index_lf s.data.toList
  have e : ∀ n, mk ((bl s).take n) = ⟨(s.data.toList.take n).toArray⟩ := fun n => by
    unfold mk bl
    rw [← List.map_take, List.map_map]
    congr 2
    exact (List.map_congr_left fun x _ => by simp).trans (List.map_id _)
  unfold Lib.cut
  by_cases h0 : 0 ≤ Lib.index s.data.toList [10]
  · rw [if_pos h0, e]
    have := (h.1 h0).1
    unfold bl
    rw [this]
  · rw [if_neg h0, e]
    have := h.2 h0
    show _ = (⟨(s.data.toList.take (hdN ne10 (bl s))).toArray⟩ : ByteArray)
    unfold bl
    rw [this, List.take_length]
/-- A row of bytes that a conversion has laid. -/
structure Mb (w : World) (b : Nat) (n : Nat) (P : List Nat) : Prop where
  row : ∃ c f, w.heap[b]? = some (.cells c 5 (f, f + 1)) ∧ n ≤ f ∧ n ≤ c.size ∧ ∀ i, i < n → c[i]? = some (.int .u8 ((P.getD i 0 : Nat) : Int))
theorem Mb.cell {w : World} {b n : Nat} {P : List Nat} (h : Mb w b n P) {i : Nat} (hi : i < n) : w.cell? ⟨b, i, none⟩ = some (.int .u8 ((P.getD i 0 : Nat) : Int)) := by
  obtain ⟨c, f, h1, h2, h3, h4⟩ := h.row
  rw [Lib.cell_of_heap h1, h4 i hi]
theorem Mb.open_ {w : World} {b n : Nat} {P : List Nat} (h : Mb w b n P) {i : Nat} (hi : i < n) : w.frozen? ⟨b, i, none⟩ = false := by
  obtain ⟨c, f, h1, h2, h3, h4⟩ := h.row
  simp [World.frozen?, h1]
  omega
theorem Mb.lt {w : World} {b n : Nat} {P : List Nat} (h : Mb w b n P) : b < w.heap.size := by
  obtain ⟨c, f, h1, _⟩ := h.row
  exact (Array.getElem?_eq_some_iff.1 h1).1
theorem Mb.set {w : World} {b n : Nat} {P Q : List Nat} (h : Mb w b n P) (i x : Nat) (hQ : ∀ j, j < n → Q.getD j 0 = if j = i then x else P.getD j 0) : Mb (w.setCell ⟨b, i, none⟩ (.int .u8 (x : Int))) b n Q := by
  obtain ⟨c, f, h1, h2, h3, h4⟩ := h.row
  refine ⟨_, f, Joins.block_setCell h1 _, h2, by simpa using h3, fun j hj => ?_⟩
  rw [Array.getElem?_setIfInBounds, hQ j hj]
  by_cases e : i = j
  · subst e
    rw [if_pos rfl, if_pos (by omega), if_pos rfl]
  · rw [if_neg e, if_neg (Ne.symm e)]
    exact h4 j hj
theorem Mb.same {w : World} {b n : Nat} {P Q : List Nat} (h : Mb w b n P) (hQ : ∀ j, j < n → Q.getD j 0 = P.getD j 0) : Mb w b n Q := by
  obtain ⟨c, f, h1, h2, h3, h4⟩ := h.row
  exact ⟨c, f, h1, h2, h3, fun j hj => by rw [hQ j hj]; exact h4 j hj⟩
theorem conv_mb (s : ByteArray) (w : World) : ∃ W1 cap, (convert 9 55 (.string s)).run Tryd.prog w = .ok (.slice (some ⟨w.heap.size, 0, none⟩) s.size cap) W1 ∧ Below w.heap.size w W1 ∧ Mb W1 w.heap.size s.size (bl s) := by
  refine ⟨_, _, Lib.run_convert_string_bytes w 9 55 5 s Tryd.underlying9 Tryd.underlying55 Tryd.underlying5, ⟨rfl, rfl, rfl, ?_, fun k hk => Lib.bytesWorld_at_old w _ s k hk⟩, ⟨_, _, Lib.bytesWorld_at_new w _ s, ?_, ?_, fun i hi => ?_⟩⟩
  · rw [Lib.bytesWorld_size]; omega
  · simp [Lib.bytesCells]
  · simp [Lib.bytesCells]
  · have h := Lib.bytesWorld_cell w 5 s i hi
    rw [Lib.cell_of_heap (Lib.bytesWorld_at_new w _ s)] at h
    rw [h]
    congr 3
    have h2 := bl_at hi
    rw [List.getD_eq_getElem?_getD, List.getD_eq_getElem?_getD, h2, Array.getElem?_toList, Array.getElem?_eq_getElem (show i < s.data.size from hi)]
    rfl
theorem back_mb {w : World} {b n : Nat} {P : List Nat} (h : Mb w b n P) (hP : P.length = n) (h256 : ∀ x ∈ P, x < 256) (cap : Nat) : (convert 55 9 (.slice (some ⟨b, 0, none⟩) n cap)).run Tryd.prog w = .ok (.string (mk P)) w := by
  have hl : (P.map UInt8.ofNat).length = n := by rw [List.length_map]; exact hP
  have := run_convert_bytes_back (P := Tryd.prog) w 55 9 5 ⟨b, 0, none⟩ cap (P.map UInt8.ofNat) Tryd.underlying55 Tryd.underlying5 Tryd.underlying9 (fun j hj => by
    have hjn : j < n := by omega
    have ha : (⟨b, 0, none⟩ : Addr).add j = ⟨b, j, none⟩ := by by_cases h : j = 0 <;> simp [Addr.add, h]
    rw [ha, h.cell hjn]
    congr 3
    have hjP : j < P.length := by omega
    have h3 := h256 _ (List.getElem_mem hjP)
    rw [List.getD_eq_getElem?_getD, List.getElem?_eq_getElem hjP, List.getElem_map]
    show P[j] = (UInt8.ofNat P[j]).toNat
    rw [UInt8.toNat_ofNat']
    omega)
  rw [hl] at this
  exact this

end Go.Proofs.YtgckopicmobbgaaDoor
