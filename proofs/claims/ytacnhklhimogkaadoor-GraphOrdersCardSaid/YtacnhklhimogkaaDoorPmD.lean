/- The inverse of a permutation, the silent graph, and the renamed graph, as the program computes them. -/
import Derived.Test.YtacnhklhimogkaaDoorT
import Derived.Test.YtacnhklhimogkaaDoorGrB
import Derived.Test.YtacnhklhimogkaaDoorGrA
import Derived.Test.YtacnhklhimogkaaDoorGrC
import Derived.Test.YtacnhklhimogkaaDoorGrD
import Derived.Test.YtacnhklhimogkaaDoorGrE
import Derived.Test.YtacnhklhimogkaaDoorPmC
import Derived.LoopTactic
import Derived.Deep.RegionWith
import Derived.Test.YtacnhklhimogkaaDoorGrM
import Derived.WalkKit
import Derived.WalkSpells
import Derived.WalkLawsBesides
import Derived.Handy
import Derived.Deep.QuietTactic
import Derived.BigQuiet
import Derived.Outline
import Derived.Laws.BitsAllLaws
import Derived.IntWalk
import Derived.Lib.SmallJoins
import Derived.Lib.Hide
namespace Go.Proofs.YtacnhklhimogkaaDoor
set_option linter.unusedVariables false
set_option linter.unusedSimpArgs false
open Go.RowKit








def arrv (n : Nat) (g : Nat → Nat) : Array Value := ((List.range n).map fun i => Value.int .i64 (g i : Int)).toArray
theorem arrv_get {n : Nat} {g : Nat → Nat} {i : Nat} (h : i < n) : (arrv n g)[i]? = some (.int .i64 (g i : Int)) := by simp [arrv, h]
theorem arrv_set (n : Nat) (g : Nat → Nat) (j v : Nat) : (arrv n g).setIfInBounds j (.int .i64 (v : Int)) = arrv n (fun i => if i = j then v else g i) := by
  unfold arrv
  apply Array.ext
  · simp
  · intro i h1 h2
    by_cases e : j = i
    · subst e; simp
    · have e' : ¬ i = j := fun h => e h.symm
      simp [Array.getElem_setIfInBounds, e, e']
theorem invr_succ (f : Nat → Nat) (m : Nat) : (fun i => if i = f m then m else invr f m i) = invr f (m + 1) := rfl

theorem make_n (n : Nat) (hn : 1 ≤ n ∧ n ≤ 5) (f : Nat → Nat) (w : World) : (Instr.makeSlice 74 (.int .i64 (n : Int)) (.int .i64 (n : Int))).run Tryd.prog w = .ok (.slice (some ⟨w.heap.size, 0, none⟩) n n) (w.alloc (.cells (arrv n (invr f 0)) 3)) := by
  obtain rfl | rfl | rfl | rfl | rfl : n = 1 ∨ n = 2 ∨ n = 3 ∨ n = 4 ∨ n = 5 := by omega
  all_goals kernel_rfl

theorem silent1_any (p : Nat) (hp : p < 5) (w : World) :
    Calls Tryd.prog 41 #[.int .i64 (p : Int)] w fun e w' => e = .returned (.int .i64 ((2 ^ p : Nat) : Int)) ∧ ∃ n, w' = w.drewN n := by
  obtain rfl | rfl | rfl | rfl | rfl : p = 0 ∨ p = 1 ∨ p = 2 ∨ p = 3 ∨ p = 4 := by omega
  all_goals
    go_enter Tryd.func41, Tryd.ntmps41
    go_wp2
    go_ret
    exact ⟨rfl, 0, rfl⟩

theorem pad_sil (n p : Nat) : pad n (fun p => ((2 ^ p : Nat) : Int)) p = ((sil n p : Nat) : Int) := by unfold pad sil; split <;> rfl

set_option maxHeartbeats 400000 in
theorem silent_ok (n : Nat) (hn : 1 ≤ n ∧ n ≤ 5) (w : World) :
    Calls Tryd.prog 10 #[.int .i64 (n : Int)] w fun e w' => e = .returned (.tuple #[gv n (sil n), .int .i64 0]) ∧ Below w.heap.size w w' := by
  have h1 : 1 ≤ n := hn.1
  have h5 : n ≤ 5 := hn.2
  go_enter Tryd.func10, Tryd.ntmps10
  go_wp2_with fail
  refine (rows_any n ⟨h1, h5⟩ 41 _ (fun p => ((2 ^ p : Nat) : Int)) _ (fun args w => by kernel_rfl) ?_).mono ?_
  · intro p W hp _
    exact silent1_any p (by omega) W
  rintro e w1 ⟨rfl, hb1⟩
  rw [pad_sil, pad_sil, pad_sil, pad_sil, pad_sil]
  obtain ⟨hc, hf⟩ := bcell hb1
  have hz : w.heap.size < w1.heap.size := by have := hb1.size; simp at this; omega
  have q0 := fresh_cell hb1 0
  have q1 := fresh_cell hb1 1
  have q2 := fresh_cell hb1 2
  have q3 := fresh_cell hb1 3
  have q4 := fresh_cell hb1 4
  have q5 := fresh_cell hb1 5
  simp at q0 q1 q2 q3 q4 q5
  have hB2 := fresh_below hb1
  clear hb1
  go_wp2_with fail
  refine bodyPost_ret (v := .tuple #[gv n (sil n), .int .i64 0]) (by simp [results, Tryd.results10, go_sem, q0, q1, q2, q3, q4, q5]) rfl ⟨rfl, ?_⟩
  repeat' (first | (with_reducible exact hB2) | (with_reducible refine Below.setCell ?_ ?_ _) | go_size)

/-- The cells of a graph's block. -/
def gcells (n : Nat) (g : Nat → Nat) : Array Value := #[.int .i64 (n : Int), .int .i64 (g 0 : Int), .int .i64 (g 1 : Int), .int .i64 (g 2 : Int), .int .i64 (g 3 : Int), .int .i64 (g 4 : Int)]
theorem gcells_get {n : Nat} {g : Nat → Nat} {i : Nat} (h : i < 5) : (gcells n g)[1 + i]? = some (.int .i64 (g i : Int)) := by
  obtain rfl | rfl | rfl | rfl | rfl : i = 0 ∨ i = 1 ∨ i = 2 ∨ i = 3 ∨ i = 4 := by omega
  all_goals rfl
theorem gcells_set {n : Nat} {g : Nat → Nat} {j v : Nat} (h : j < 5) : (gcells n g).setIfInBounds (1 + j) (.int .i64 (v : Int)) = gcells n (fun i => if i = j then v else g i) := by
  obtain rfl | rfl | rfl | rfl | rfl : j = 0 ∨ j = 1 ∨ j = 2 ∨ j = 3 ∨ j = 4 := by omega
  all_goals rfl
theorem pgr_succ (n : Nat) (f k : Nat → Nat) (m : Nat) : (fun i => if i = f m then img f (k m) n else pgr n f k m i) = pgr n f k (m + 1) := rfl

theorem Arr.drew {w : World} {b off n : Nat} {f : Nat → Nat} (h : Arr w b off n f) : Arr w.drew b off n f := ⟨h.lt, h.cell⟩

set_option maxHeartbeats 1000000 in
theorem permute_ok (n cap b off : Nat) (f a : Nat → Nat) (ha : WF n a) (hc : n ≤ cap) (hf : Perm n f) (w : World) (hA : Arr w b off n f) :
    Calls Tryd.prog 46 #[gv n a, .slice (some ⟨b, off, none⟩) n cap] w
      fun e w' => e = .returned (.tuple #[gv n (pgr n f a n), .int .i64 0]) ∧ Below w.heap.size w w' := by
  have h1 : 1 ≤ n := ha.1.1
  have h5 : n ≤ 5 := ha.1.2
  have hsl := slice_arr n ⟨h1, h5⟩ w.heap.size 1
  have Ha := Lib.hid ha
  have HA := Lib.hid hA
  have Hf := Lib.hid hf
  clear ha hA hf
  go_enter Tryd.func46, Tryd.ntmps46
  go_wp2_with fail
  refine (check_ok n a Ha.out _).mono ?_
  rintro e w1 ⟨rfl, hb1⟩
  obtain ⟨hc1, hf1⟩ := bcell hb1
  have hz : w.heap.size < w1.heap.size := by have := hb1.size; simp at this; omega
  have hz1 : w.heap.size + 1 < w1.heap.size := by have := hb1.size; simp at this; omega
  have B1 : Below w.heap.size w w1 := (((Below.refl w.heap.size w).alloc (Nat.le_refl _) _).alloc (by simp) _).trans (Joins.below_le hb1 (by simp; omega))
  go_wp2_with fail
  refine (pchk_ok n cap b off f h1 h5 hc Hf.out _ (HA.out.below B1)).mono ?_
  rintro e w' ⟨rfl, rfl⟩
  go_wp2_with fail
  obtain ⟨W, hW⟩ : ∃ W, w1.alloc (.cells #[.int .i64 (n : Int), .int .i64 0, .int .i64 0, .int .i64 0, .int .i64 0, .int .i64 0] 24) = W := ⟨_, rfl⟩
  rw [hW]
  have hB0 : Below w1.heap.size w1 W := by rw [← hW]; exact (Below.refl _ _).alloc (Nat.le_refl _) _
  have hR0 : W.heap[w1.heap.size]? = some (.cells (gcells n (pgr n f a 0)) 24 (0, 0)) := by
    rw [← hW]
    show (w1.heap.push _)[w1.heap.size]? = _
    simp
    rfl
  clear hW
  go_loopw [37] (fun j wr => ∃ m : Nat, m ≤ n ∧ j = .int .i64 m ∧ Below w1.heap.size w1 wr ∧ wr.heap[w1.heap.size]? = some (.cells (gcells n (pgr n f a m)) 24 (0, 0))) (fun j _ => n - (intOf j).toNat)
  case atStart => exact ⟨0, by omega, rfl, hB0, hR0⟩
  case round =>
    obtain ⟨m, hm, rfl, hB, hR⟩ := hrel
    have B2 := B1.trans (Joins.below_le hB B1.size)
    by_cases hlt : m < n
    · have hcell := (HA.out.below B2).cell m hlt
      have hx := Hf.out.lt m hlt
      have hrow : wr.cell? ⟨w.heap.size, 1 + m, none⟩ = some (.int .i64 (a m : Int)) := cell_row (n := n) (k := a) (fun i _ => by
        rw [hB.cell (p := ⟨w.heap.size, i, none⟩) hz, hc1 _ _ (by simp; omega)]
        exact box_cell1' w _ _ _ _ i) (by omega)
      have hset := fun W hA => set_ok n cap b off (a m) f h1 h5 hc Hf.out (Ha.out.2.1 m hlt).1 W hA
      have hst := Joins.block_setCell (i := 1 + f m) hR (.int .i64 ((img f (a m) n : Nat) : Int))
      rw [gcells_set (by omega), pgr_succ] at hst
      have hcR : wr.cell? ⟨w1.heap.size, 1 + f m, none⟩ = some (.int .i64 (pgr n f a m (f m) : Int)) := (Joins.cell_of_block hR (1 + f m)).trans (gcells_get (by omega))
      have hfR : wr.frozen? ⟨w1.heap.size, 1 + f m, none⟩ = false := Joins.unfrozen_of_block hR (1 + f m)
      have hAr := HA.out.below B2
      obtain ⟨x, hxx⟩ : ∃ x, f m = x := ⟨_, rfl⟩
      obtain ⟨y, hyy⟩ : ∃ y, a m = y := ⟨_, rfl⟩
      obtain ⟨v, hvv⟩ : ∃ v, img f (a m) n = v := ⟨_, rfl⟩
      rw [hvv] at hst hset
      rw [hyy] at hrow hset
      rw [hxx] at hcell hx hst hcR hfR
      have Hset := Lib.hid hset
      have Hst := Lib.hid hst
      have HB := Lib.hid hB
      have HAr := Lib.hid hAr
      clear hst hxx hyy hvv hR hB hset hAr
      go_wp2_with fail
      go_region_with (go_at_call 65; refine (Hset.out _ ?_).mono ?_; first | exact HAr.out | exact HAr.out.drew; rintro e w' ⟨rfl, rfl⟩)
      all_goals go_wp2_with fail
      all_goals exact ⟨⟨m + 1, by omega, by go_num, (HB.out.setCell (Nat.le_refl _) _).drew, Hst.out⟩, by simp [intOf]; omega⟩
    · have hmn : m = n := by omega
      subst hmn
      obtain ⟨hc2, hf2⟩ := bcell hB
      have q : ∀ i, wr.cell? ⟨w1.heap.size, i, none⟩ = (gcells m (pgr m f a m))[i]? := fun i => Joins.cell_of_block hR i
      have z : ∀ i, wr.cell? ⟨w.heap.size + 1, i, none⟩ = (#[.int .i64 0, .int .i64 0, .int .i64 0, .int .i64 0, .int .i64 0, .int .i64 0] : Array Value)[i]? := fun i =>
        (hc2 _ _ hz1).trans ((hc1 _ _ (by simp)).trans (box_cell2' w _ _ _ _ i))
      have q0 := q 0
      have q1 := q 1
      have q2 := q 2
      have q3 := q 3
      have q4 := q 4
      have q5 := q 5
      have z0 := z 0
      have z1 := z 1
      have z2 := z 2
      have z3 := z 3
      have z4 := z 4
      have z5 := z 5
      simp only [gcells] at q0 q1 q2 q3 q4 q5
      simp at q0 q1 q2 q3 q4 q5 z0 z1 z2 z3 z4 z5
      clear q z hR hsl
      go_wp2_with fail
      refine bodyPost_ret (v := .tuple #[gv m (pgr m f a m), .int .i64 0]) (by simp [results, Tryd.results46, go_sem, z0, z1, z2, z3, z4, z5]) rfl ⟨rfl, ?_⟩
      repeat' (first | (with_reducible exact B2) | (with_reducible refine Below.setCell ?_ ?_ _) | go_size)
end Go.Proofs.YtacnhklhimogkaaDoor
