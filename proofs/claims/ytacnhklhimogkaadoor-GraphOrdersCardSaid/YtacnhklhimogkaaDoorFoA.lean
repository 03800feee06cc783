/- The text of a well-formed graph. -/
import Derived.Test.YtacnhklhimogkaaDoorShelf
import Derived.Test.YtacnhklhimogkaaDoorGcC
import Derived.Test.YtacnhklhimogkaaDoorGcB
import Derived.Test.YtacnhklhimogkaaDoorGrN
import Derived.Test.YtacnhklhimogkaaDoorPmA
import Derived.Test.YtacnhklhimogkaaDoorPmM
import Derived.Test.YtacnhklhimogkaaDoorPmD
import Derived.Test.YtacnhklhimogkaaDoorGrR
import Derived.Test.YtacnhklhimogkaaDoorTb
import Derived.LoopTactic
import Derived.Deep.RegionWith
import Derived.WalkKit
import Derived.WalkSpells
import Derived.WalkLawsBesides
import Derived.Handy
import Derived.Deep.QuietTactic
import Derived.BigQuiet
import Derived.Outline
import Derived.Laws.BitsAllLaws
import Derived.IntWalk
import Derived.Lib.SmallJoins
import Derived.Lib.Hide
namespace Go.Proofs.YtacnhklhimogkaaDoor
set_option linter.unusedVariables false
set_option linter.unusedSimpArgs false
open Go.RowKit

/-- A list of n strings. -/
def strv (n : Nat) (f : Nat → ByteArray) : Array Value := ((List.range n).map fun i => Value.string (f i)).toArray
theorem strv_get {n : Nat} {f : Nat → ByteArray} {i : Nat} (h : i < n) : (strv n f)[i]? = some (.string (f i)) := by simp [strv, h]
theorem strv_set (n : Nat) (f : Nat → ByteArray) (j : Nat) (v : ByteArray) : (strv n f).setIfInBounds j (.string v) = strv n (fun i => if i = j then v else f i) := by
  unfold strv
  apply Array.ext
  · simp
  · intro i h1 h2
    by_cases e : j = i
    · subst e; simp
    · have e' : ¬ i = j := fun h => e h.symm
      simp [Array.getElem_setIfInBounds, e, e']
theorem make_str (n : Nat) (hn : 1 ≤ n ∧ n ≤ 5) (w : World) : (Instr.makeSlice 80 (.int .i64 (n : Int)) (.int .i64 (n : Int))).run Tryd.prog w = .ok (.slice (some ⟨w.heap.size, 0, none⟩) n n) (w.alloc (.cells (strv n (fun _ => ⟨#[]⟩)) 9)) := by
  obtain rfl | rfl | rfl | rfl | rfl : n = 1 ∨ n = 2 ∨ n = 3 ∨ n = 4 ∨ n = 5 := by omega
  all_goals kernel_rfl

/-- The digits of the elements of a set that lie below m. -/
def rtx (x : Nat) : Nat → ByteArray
  | 0 => ⟨#[]⟩
  | m + 1 => if x / 2 ^ m % 2 = 1 then rtx x m ++ Utf8.encode ((48 + m : Nat) : Int) else rtx x m

theorem enc_size (m : Nat) (hm : m < 5) : (Utf8.encode ((48 + m : Nat) : Int)).size = 1 := by
  obtain rfl | rfl | rfl | rfl | rfl : m = 0 ∨ m = 1 ∨ m = 2 ∨ m = 3 ∨ m = 4 := by omega
  all_goals decide +kernel
theorem rtx_size (x : Nat) : ∀ m, m ≤ 5 → (rtx x m).size ≤ m
  | 0, _ => by show (ByteArray.mk #[]).size ≤ 0; decide
  | m + 1, h => by
    have h1 := rtx_size x m (by omega)
    have h2 := enc_size m (by omega)
    unfold rtx
    split
    · rw [ByteArray.size_append]; omega
    · omega
theorem lens_le (k : Nat) : ∀ xs : List (List UInt8), (∀ x ∈ xs, x.length ≤ k) → Lib.lens xs ≤ k * xs.length
  | [], _ => by simp [Lib.lens]
  | x :: r, h => by
    have h1 := lens_le k r (fun y hy => h y (List.mem_cons_of_mem _ hy))
    have h2 := h x (List.mem_cons_self ..)
    simp only [Lib.lens, List.map_cons, List.sum_cons, List.length_cons, Nat.mul_succ] at h1 ⊢
    omega
theorem join_len (xs : List (List UInt8)) (sep : List UInt8) : (Lib.join xs sep).length ≤ sep.length * xs.length + Lib.lens xs := by
  cases xs with
  | nil => simp [Lib.join_nil]
  | cons x r =>
    rw [Lib.join_cons, List.length_append, Lib.joinTail_length]
    simp only [Lib.lens, List.map_cons, List.sum_cons, List.length_cons, Nat.mul_succ]
    omega

/-- Strings that are filled: those before p are whole, number p has what v says, the rest is empty. -/
def fills (V : Nat → ByteArray) (p : Nat) (v : ByteArray) (i : Nat) : ByteArray := if i < p then V i else if i = p then v else ⟨#[]⟩
theorem fills_set (V : Nat → ByteArray) (p : Nat) (u v : ByteArray) : (fun i => if i = p then v else fills V p u i) = fills V p v := by
  funext i
  unfold fills
  by_cases h : i = p
  · subst h; simp
  · by_cases h2 : i < p
    · simp [h, h2]
    · simp [h, h2]
theorem fills_next (V : Nat → ByteArray) (p : Nat) : fills V p (V p) = fills V (p + 1) ⟨#[]⟩ := by
  funext i
  unfold fills
  by_cases h : i < p
  · simp [h, Nat.lt_succ_of_lt h]
  · by_cases h2 : i = p
    · subst h2; simp
    · have h3 : ¬ i < p + 1 := by omega
      by_cases h4 : i = p + 1
      · rw [if_neg h, if_neg h2, if_neg h3, if_pos h4]
      · rw [if_neg h, if_neg h2, if_neg h3, if_neg h4]
theorem fills_at (V : Nat → ByteArray) (p : Nat) (v : ByteArray) : fills V p v p = v := by simp [fills]

/-- The text of a graph. -/
def gtx (n : Nat) (a : Nat → Nat) : ByteArray := ⟨(Lib.join (((List.range n).map fun p => rtx (a p) n).map (·.data.toList)) ({ data := #[32] } : ByteArray).data.toList).toArray⟩

set_option maxHeartbeats 2000000 in
theorem text_ok (n : Nat) (a : Nat → Nat) (ha : WF n a) (w : World) :
    Calls Tryd.prog 56 #[gv n a] w fun e w' => e = .returned (.string (gtx n a)) ∧ Below w.heap.size w w' := by
  have h1 : 1 ≤ n := ha.1.1
  have h5 : n ≤ 5 := ha.1.2
  have Har := Lib.hid (fun p (hp : p < n) => pow_small h5 (ha.2.1 p hp).1)
  have hmk := make_str n ⟨h1, h5⟩
  clear ha
  go_enter Tryd.func56, Tryd.ntmps56
  go_wp2_with fail
  obtain ⟨W, hW⟩ : ∃ W, (w.alloc (.cells #[.int .i64 (n : Int), .int .i64 (a 0 : Int), .int .i64 (a 1 : Int), .int .i64 (a 2 : Int), .int .i64 (a 3 : Int), .int .i64 (a 4 : Int)] 24)).alloc (.cells (strv n (fun _ => ⟨#[]⟩)) 9) = W := ⟨_, rfl⟩
  rw [hW]
  have XA : Box W w.heap.size #[.int .i64 (n : Int), .int .i64 (a 0 : Int), .int .i64 (a 1 : Int), .int .i64 (a 2 : Int), .int .i64 (a 3 : Int), .int .i64 (a 4 : Int)] 24 := hW ▸ (Box.new w _ _).alloc _
  have XR : Box W (w.heap.size + 1) (strv n (fills (fun i => rtx (a i) n) 0 ⟨#[]⟩)) 9 := by
    have e : fills (fun i => rtx (a i) n) 0 ⟨#[]⟩ = fun _ => ⟨#[]⟩ := by funext i; unfold fills; simp
    rw [e]
    exact hW ▸ Box.at_ (by simp) _ _
  have B1 : Below w.heap.size w W := hW ▸ ((Below.refl _ _).alloc (Nat.le_refl _) _).alloc (by simp) _
  clear hW hmk
  obtain ⟨R, hR⟩ : ∃ R, w.heap.size + 1 = R := ⟨_, rfl⟩
  have hz0 : w.heap.size < R := by omega
  rw [hR] at XR ⊢
  have CA : Hid (∀ m, m < 5 → ∀ V, Below R W V → V.cell? ⟨w.heap.size, 1 + m, none⟩ = some (.int .i64 (a m : Int))) := Lib.hid (fun m hm V hV => cell_row (n := n) (k := a) (fun i _ => (XA.below hV hz0).cell i) hm)
  have CN : Hid (∀ V, Below R W V → V.cell? ⟨w.heap.size, 0, none⟩ = some (.int .i64 (n : Int))) := Lib.hid (fun V hV => (XA.below hV hz0).cell 0)
  have HB1 := Lib.hid B1
  clear XA B1 hR
  go_loopw [11] (fun j wr => ∃ p : Nat, p ≤ n ∧ j = .int .i64 p ∧ Below R W wr ∧ Box wr R (strv n (fills (fun i => rtx (a i) n) p ⟨#[]⟩)) 9) (fun j _ => n - (intOf j).toNat)
  case atStart => exact ⟨0, by omega, rfl, Below.refl _ _, XR⟩
  case round =>
    obtain ⟨p, hp, rfl, hB, hX⟩ := hrel
    clear XR
    have hcn := CN.out wr hB
    by_cases hlt : p < n
    · have HX := Lib.hid hX
      have HB := Lib.hid hB
      clear hX hB
      go_wp2_with fail
      go_loopw [16] (fun j wr => ∃ m : Nat, m ≤ n ∧ j = .int .i64 m ∧ Below R W wr ∧ Box wr R (strv n (fills (fun i => rtx (a i) n) p (rtx (a p) m))) 9) (fun j _ => n - (intOf j).toNat)
      case atStart => exact ⟨0, by omega, rfl, HB.out, HX.out⟩
      case round =>
        clear HX HB hcn
        obtain ⟨m, hm, rfl, hB, hX⟩ := hrel
        by_cases hml : m < n
        · have hca := CA.out p (by omega) wr hB
          have hcr : wr.cell? ⟨R, p, none⟩ = some (.string (rtx (a p) m)) := (hX.cell p).trans ((strv_get hlt).trans (by rw [fills_at]))
          have hfr : wr.frozen? ⟨R, p, none⟩ = false := hX.open_ p
          have hlR := hX.lt
          have hy := Har.out p hlt
          by_cases hbit : a p / 2 ^ m % 2 = 1
          · have hst := hX.set p (.string (rtx (a p) (m + 1)))
            rw [strv_set, fills_set] at hst
            have hb2 : (bits .and .i64 ((a p : Int) / ((2 ^ m : Nat) : Int)) 1 == 1) = true := bit_is (a p) (2 ^ m) hy hbit
            have hsucc : rtx (a p) (m + 1) = rtx (a p) m ++ Utf8.encode ((48 + m : Nat) : Int) := if_pos hbit
            obtain ⟨u, huu⟩ : ∃ u, rtx (a p) m = u := ⟨_, rfl⟩
            obtain ⟨v, hvv⟩ : ∃ v, rtx (a p) (m + 1) = v := ⟨_, rfl⟩
            rw [huu, hvv] at hsucc
            rw [huu] at hcr
            rw [hvv] at hst
            obtain ⟨x, hxx⟩ : ∃ x, a p = x := ⟨_, rfl⟩
            have Hvv : Hid (rtx (a p) (m + 1) = v) := Lib.hid hvv
            rw [hxx] at hca hy hb2
            have hus : u.size ≤ 5 := by have := rtx_size (a p) m (by omega); rw [huu] at this; omega
            have Hst : Hid (Box (wr.setCell ⟨R, p, none⟩ (.string (u ++ Utf8.encode ((48 + m : Nat) : Int)))) R (strv n (fills (fun i => rtx (a i) n) p (rtx (a p) (m + 1)))) 9) := Lib.hid (by rw [hvv, ← hsucc]; exact hst)
            have HB := Lib.hid hB
            clear hX hB hbit hst huu hvv hxx hsucc Hvv
            obtain rfl | rfl | rfl | rfl | rfl : m = 0 ∨ m = 1 ∨ m = 2 ∨ m = 3 ∨ m = 4 := by omega
            all_goals
              simp only [Nat.reducePow, Nat.reduceAdd, Int.cast_ofNat_Int, Int.ediv_one] at hb2
              have e0 : (Utf8.encode 48).size = 1 := by decide +kernel
              have e1 : (Utf8.encode 49).size = 1 := by decide +kernel
              have e2 : (Utf8.encode 50).size = 1 := by decide +kernel
              have e3 : (Utf8.encode 51).size = 1 := by decide +kernel
              have e4 : (Utf8.encode 52).size = 1 := by decide +kernel
              go_wp2_with fail
              refine ⟨⟨_, ?_, ?_, HB.out.setCell (Nat.le_refl _) _, Hst.out⟩, ?_⟩
              · omega
              · rfl
              · simp [intOf]; omega
          · have hb2 : (bits .and .i64 ((a p : Int) / ((2 ^ m : Nat) : Int)) 1 == 1) = false := bit_not (a p) (2 ^ m) hy hbit
            have hsucc : rtx (a p) (m + 1) = rtx (a p) m := if_neg hbit
            have HX : Hid (Box wr R (strv n (fills (fun i => rtx (a i) n) p (rtx (a p) (m + 1)))) 9) := Lib.hid (by rw [hsucc]; exact hX)
            obtain ⟨x, hxx⟩ : ∃ x, a p = x := ⟨_, rfl⟩
            rw [hxx] at hca hy hb2
            have HB := Lib.hid hB
            clear hX hB hbit hxx hsucc hcr
            obtain rfl | rfl | rfl | rfl | rfl : m = 0 ∨ m = 1 ∨ m = 2 ∨ m = 3 ∨ m = 4 := by omega
            all_goals
              simp only [Nat.reducePow, Nat.reduceAdd, Int.cast_ofNat_Int, Int.ediv_one] at hb2
              go_wp2_with fail
              refine ⟨⟨_, ?_, ?_, HB.out, HX.out⟩, ?_⟩
              · omega
              · rfl
              · simp [intOf]; omega
        · have hmn : m = n := by omega
          subst hmn
          have HX : Hid (Box wr R (strv m (fills (fun i => rtx (a i) m) (p + 1) ⟨#[]⟩)) 9) := Lib.hid (by rw [← fills_next]; exact hX)
          have HB := Lib.hid hB
          clear hX hB
          go_wp2_with fail
          exact ⟨⟨p + 1, by omega, by go_num, HB.out, HX.out⟩, by simp [intOf]; omega⟩
    · have hpn : p = n := by omega
      subst hpn
      have hl : (Lib.join (((List.range p).map fun q => rtx (a q) p).map (·.data.toList)) ({ data := #[32] } : ByteArray).data.toList).length ≤ 140737488355328 := by
        refine Nat.le_trans (join_len _ _) ?_
        have h2 := lens_le 5 (((List.range p).map fun q => rtx (a q) p).map (·.data.toList)) (fun x hx => by
          rw [List.map_map, List.mem_map] at hx
          obtain ⟨q, _, rfl⟩ := hx
          have := rtx_size (a q) p h5
          have e : ((rtx (a q) p).data.toList).length = (rtx (a q) p).size := Array.length_toList
          show ((rtx (a q) p).data.toList).length ≤ 5
          omega)
        simp only [List.length_map, List.length_range] at h2 ⊢
        have h3 : (({ data := #[32] } : ByteArray).data.toList).length = 1 := rfl
        rw [h3]
        omega
      have HJ : Hid (∀ V, Box V R (strv p (fills (fun i => rtx (a i) p) p ⟨#[]⟩)) 9 → Calls Tryd.prog 69 #[.slice (some ⟨R, 0, none⟩) p p, .string { data := #[32] }] V fun e V' => e = .returned (.string (gtx p a)) ∧ Below V.heap.size V V') := Lib.hid (fun V hV => by
        have h := Tryd.strings_Join R 0 p ((List.range p).map fun q => rtx (a q) p) { data := #[32] } V (fun j x hj => by
          rw [Nat.zero_add]
          refine (hV.cell j).trans ?_
          rw [List.getElem?_map] at hj
          have hjp : j < p := by
            rcases Nat.lt_or_ge j p with h | h
            · exact h
            · rw [List.getElem?_eq_none (by simpa using h)] at hj; cases hj
          rw [List.getElem?_range hjp] at hj
          cases hj
          rw [strv_get hjp]
          unfold fills
          rw [if_pos hjp]) hV.lt (by rw [List.length_map, List.length_range]; omega) (by rw [List.length_map, List.length_range]; omega) hl
        rw [List.length_map, List.length_range] at h
        exact h)
      have HX := Lib.hid hX
      have HB := Lib.hid hB
      clear hX hB hl
      go_wp2_with fail
      refine (HJ.out _ HX.out).mono ?_
      rintro e w2 ⟨rfl, hb⟩
      have B2 := HB1.out.trans (Joins.below_le HB.out (Nat.le_of_lt hz0))
      have B3 := B2.trans (Joins.below_le hb B2.size)
      go_wp2_with fail
      go_ret
      exact ⟨rfl, B3⟩
end Go.Proofs.YtacnhklhimogkaaDoor
