/- Kernels, roots and nonsplit graphs: what the package and the specification answer. -/
import Derived.Test.YtlkhbfaoebgmkaaDoorGcE
import Derived.Test.YtlkhbfaoebgmkaaDoorRtM
import Derived.Test.YtlkhbfaoebgmkaaDoorGcB
import Derived.Test.YtlkhbfaoebgmkaaDoorGrN
import Derived.Test.YtlkhbfaoebgmkaaDoorPmA
import Derived.Test.YtlkhbfaoebgmkaaDoorPmM
import Derived.Test.YtlkhbfaoebgmkaaDoorPmD
import Derived.Test.YtlkhbfaoebgmkaaDoorGrR
import Derived.Test.YtlkhbfaoebgmkaaDoorTb
import Derived.LoopTactic
import Derived.Deep.RegionWith
import Derived.WalkKit
import Derived.WalkSpells
import Derived.WalkLawsBesides
import Derived.Handy
import Derived.Deep.QuietTactic
import Derived.BigQuiet
import Derived.Outline
import Derived.Laws.BitsAllLaws
import Derived.IntWalk
import Derived.Lib.SmallJoins
import Derived.Lib.Hide
namespace Go.Proofs.YtlkhbfaoebgmkaaDoor
set_option linter.unusedVariables false
set_option linter.unusedSimpArgs false
open Go.RowKit

set_option maxHeartbeats 400000 in
theorem edges_bad (n : Int) (a : Nat → Int) (ra : Rng a) (h : gcode n a ≠ 0) (w : World) :
    Calls Tryd.prog 19 #[iv n a] w fun e w' => e = .returned (.tuple #[.int .i64 0, .int .i64 (gcode n a)]) ∧ Below w.heap.size w w' := by
  have Hc := Lib.hid (fun w => gcheck_code n a ra w)
  have hc := gcode_cases n a
  obtain ⟨c, ec⟩ : ∃ c, gcode n a = c := ⟨_, rfl⟩
  rw [ec] at Hc hc h ⊢
  clear ec ra
  go_enter Tryd.func19, Tryd.ntmps19
  go_wp2_with fail
  refine (Hc.out _).mono ?_
  rintro e w1 ⟨rfl, hb1⟩
  have B1 := fresh_below hb1
  clear Hc
  rcases hc with rfl | rfl | rfl
  · exact absurd rfl h
  all_goals
    clear h
    go_wp2_with fail
    go_ret2
    exact ⟨rfl, B1⟩

set_option maxHeartbeats 400000 in
theorem kernel1_bad (n : Int) (a : Nat → Int) (ra : Rng a) (h : gcode n a ≠ 0) (w : World) :
    Calls Tryd.prog 21 #[iv n a] w fun e w' => e = .returned (.tuple #[.int .i64 0, .int .i64 (gcode n a)]) ∧ Below w.heap.size w w' := by
  have Hc := Lib.hid (fun w => gcheck_code n a ra w)
  have hc := gcode_cases n a
  obtain ⟨c, ec⟩ : ∃ c, gcode n a = c := ⟨_, rfl⟩
  rw [ec] at Hc hc h ⊢
  clear ec ra
  go_enter Tryd.func21, Tryd.ntmps21
  go_wp2_with fail
  refine (Hc.out _).mono ?_
  rintro e w1 ⟨rfl, hb1⟩
  have B1 := fresh_below hb1
  clear Hc
  rcases hc with rfl | rfl | rfl
  · exact absurd rfl h
  all_goals
    clear h
    go_wp2_with fail
    go_ret2
    exact ⟨rfl, B1⟩

set_option maxHeartbeats 400000 in
theorem roots_bad (n : Int) (a : Nat → Int) (ra : Rng a) (h : gcode n a ≠ 0) (w : World) :
    Calls Tryd.prog 23 #[iv n a] w fun e w' => e = .returned (.tuple #[.int .i64 0, .int .i64 (gcode n a)]) ∧ Below w.heap.size w w' := by
  have Hc := Lib.hid (fun w => gcheck_code n a ra w)
  have hc := gcode_cases n a
  obtain ⟨c, ec⟩ : ∃ c, gcode n a = c := ⟨_, rfl⟩
  rw [ec] at Hc hc h ⊢
  clear ec ra
  go_enter Tryd.func23, Tryd.ntmps23
  go_wp2_with fail
  refine (Hc.out _).mono ?_
  rintro e w1 ⟨rfl, hb1⟩
  have B1 := fresh_below hb1
  clear Hc
  rcases hc with rfl | rfl | rfl
  · exact absurd rfl h
  all_goals
    clear h
    go_wp2_with fail
    go_ret2
    exact ⟨rfl, B1⟩

set_option maxHeartbeats 400000 in
theorem nonsplit_bad (n : Int) (a : Nat → Int) (ra : Rng a) (h : gcode n a ≠ 0) (w : World) :
    Calls Tryd.prog 25 #[iv n a] w fun e w' => e = .returned (.tuple #[.bool false, .int .i64 (gcode n a)]) ∧ Below w.heap.size w w' := by
  have Hc := Lib.hid (fun w => gcheck_code n a ra w)
  have hc := gcode_cases n a
  obtain ⟨c, ec⟩ : ∃ c, gcode n a = c := ⟨_, rfl⟩
  rw [ec] at Hc hc h ⊢
  clear ec ra
  go_enter Tryd.func25, Tryd.ntmps25
  go_wp2_with fail
  refine (Hc.out _).mono ?_
  rintro e w1 ⟨rfl, hb1⟩
  have B1 := fresh_below hb1
  clear Hc
  rcases hc with rfl | rfl | rfl
  · exact absurd rfl h
  all_goals
    clear h
    go_wp2_with fail
    go_ret2
    exact ⟨rfl, B1⟩

set_option maxHeartbeats 400000 in
theorem redges_bad (n : Int) (a : Nat → Int) (ra : Rng a) (h : gcode n a ≠ 0) (w : World) :
    Calls Tryd.prog 20 #[iv n a] w fun e w' => e = .returned (.tuple #[.int .i64 0, .int .i64 (gcode n a)]) ∧ Below w.heap.size w w' := by
  have Hc := Lib.hid (fun w => rcheck_code n a ra w)
  have hc := gcode_cases n a
  obtain ⟨c, ec⟩ : ∃ c, gcode n a = c := ⟨_, rfl⟩
  rw [ec] at Hc hc h ⊢
  clear ec ra
  go_enter Tryd.func20, Tryd.ntmps20
  go_wp2_with fail
  refine (Hc.out _).mono ?_
  rintro e w1 ⟨rfl, hb1⟩
  have B1 := fresh_below hb1
  clear Hc
  rcases hc with rfl | rfl | rfl
  · exact absurd rfl h
  all_goals
    clear h
    go_wp2_with fail
    go_ret2
    exact ⟨rfl, B1⟩

set_option maxHeartbeats 400000 in
theorem rkernel_bad (n : Int) (a : Nat → Int) (ra : Rng a) (h : gcode n a ≠ 0) (w : World) :
    Calls Tryd.prog 22 #[iv n a] w fun e w' => e = .returned (.tuple #[.int .i64 0, .int .i64 (gcode n a)]) ∧ Below w.heap.size w w' := by
  have Hc := Lib.hid (fun w => rcheck_code n a ra w)
  have hc := gcode_cases n a
  obtain ⟨c, ec⟩ : ∃ c, gcode n a = c := ⟨_, rfl⟩
  rw [ec] at Hc hc h ⊢
  clear ec ra
  go_enter Tryd.func22, Tryd.ntmps22
  go_wp2_with fail
  refine (Hc.out _).mono ?_
  rintro e w1 ⟨rfl, hb1⟩
  have B1 := fresh_below hb1
  clear Hc
  rcases hc with rfl | rfl | rfl
  · exact absurd rfl h
  all_goals
    clear h
    go_wp2_with fail
    go_ret2
    exact ⟨rfl, B1⟩

set_option maxHeartbeats 400000 in
theorem rroots_bad (n : Int) (a : Nat → Int) (ra : Rng a) (h : gcode n a ≠ 0) (w : World) :
    Calls Tryd.prog 24 #[iv n a] w fun e w' => e = .returned (.tuple #[.int .i64 0, .int .i64 (gcode n a)]) ∧ Below w.heap.size w w' := by
  have Hc := Lib.hid (fun w => rcheck_code n a ra w)
  have hc := gcode_cases n a
  obtain ⟨c, ec⟩ : ∃ c, gcode n a = c := ⟨_, rfl⟩
  rw [ec] at Hc hc h ⊢
  clear ec ra
  go_enter Tryd.func24, Tryd.ntmps24
  go_wp2_with fail
  refine (Hc.out _).mono ?_
  rintro e w1 ⟨rfl, hb1⟩
  have B1 := fresh_below hb1
  clear Hc
  rcases hc with rfl | rfl | rfl
  · exact absurd rfl h
  all_goals
    clear h
    go_wp2_with fail
    go_ret2
    exact ⟨rfl, B1⟩

set_option maxHeartbeats 400000 in
theorem rnonsplit_bad (n : Int) (a : Nat → Int) (ra : Rng a) (h : gcode n a ≠ 0) (w : World) :
    Calls Tryd.prog 26 #[iv n a] w fun e w' => e = .returned (.tuple #[.bool false, .int .i64 (gcode n a)]) ∧ Below w.heap.size w w' := by
  have Hc := Lib.hid (fun w => rcheck_code n a ra w)
  have hc := gcode_cases n a
  obtain ⟨c, ec⟩ : ∃ c, gcode n a = c := ⟨_, rfl⟩
  rw [ec] at Hc hc h ⊢
  clear ec ra
  go_enter Tryd.func26, Tryd.ntmps26
  go_wp2_with fail
  refine (Hc.out _).mono ?_
  rintro e w1 ⟨rfl, hb1⟩
  have B1 := fresh_below hb1
  clear Hc
  rcases hc with rfl | rfl | rfl
  · exact absurd rfl h
  all_goals
    clear h
    go_wp2_with fail
    go_ret2
    exact ⟨rfl, B1⟩

set_option maxHeartbeats 1000000 in
theorem rcommon_ok (n : Nat) (a : Nat → Nat) (ha : WF n a) (w : World) :
    Calls Tryd.prog 53 #[gv n a] w fun e w' => e = .returned (.int .i64 ((ker n a n : Nat) : Int)) ∧ Below w.heap.size w w' := by
  have h1 : 1 ≤ n := ha.1.1
  have h5 : n ≤ 5 := ha.1.2
  have Har := Lib.hid (fun p (hp : p < n) => (ha.2.1 p hp).1)
  have hp0 : 0 < 2 ^ n := Nat.pow_pos (by omega)
  have HF : Hid (∀ w, Calls Tryd.prog 40 #[.int .i64 (n : Int)] w fun e w' => e = .returned (.int .i64 ((ker n a 0 : Nat) : Int)) ∧ w = w') := Lib.hid (fun w => by
    have := full_any n h5 w
    have e : ((2 ^ n : Nat) : Int) - 1 = ((ker n a 0 : Nat) : Int) := by
      show ((2 ^ n : Nat) : Int) - 1 = ((2 ^ n - 1 : Nat) : Int)
      omega
    rw [e] at this
    exact this)
  have HA := Lib.hid (fun m (hm : m < 5) => cell_row (n := n) (k := a) (fun i _ => World.cell?_alloc_mark w #[.int .i64 (n : Int), .int .i64 (a 0 : Int), .int .i64 (a 1 : Int), .int .i64 (a 2 : Int), .int .i64 (a 3 : Int), .int .i64 (a 4 : Int)] 24 (0, 0) i) hm)
  clear ha hp0
  go_enter Tryd.func53, Tryd.ntmps53
  go_wp2_with fail
  refine (HF.out _).mono ?_
  rintro e w' ⟨rfl, rfl⟩
  clear HF
  go_wp2_with fail
  obtain ⟨W, hW⟩ : ∃ W, w.alloc (.cells #[.int .i64 (n : Int), .int .i64 (a 0 : Int), .int .i64 (a 1 : Int), .int .i64 (a 2 : Int), .int .i64 (a 3 : Int), .int .i64 (a 4 : Int)] 24) = W := ⟨_, rfl⟩
  rw [hW] at HA ⊢
  have hB : Below w.heap.size w W := by rw [← hW]; exact (Below.refl _ _).alloc (Nat.le_refl _) _
  have hcn : W.cell? ⟨w.heap.size, 0, none⟩ = some (.int .i64 (n : Int)) := by rw [← hW]; exact World.cell?_alloc_mark w _ _ (0, 0) 0
  clear hW
  go_loop [3, 4] (fun c j => ∃ k : Nat, k ≤ n ∧ j = .int .i64 k ∧ c = .int .i64 ((ker n a k : Nat) : Int)) (fun _ j => n - (intOf j).toNat)
  case atStart => exact ⟨0, by omega, rfl, rfl⟩
  case round =>
    obtain ⟨m, hm, rfl, rfl⟩ := hrel
    by_cases hlt : m < n
    · have hcell := HA.out m (by omega)
      have hand := ker_in h5 hlt Har.out
      obtain ⟨v, hv⟩ : ∃ v, ker n a m = v := ⟨_, rfl⟩
      obtain ⟨v', hv'⟩ : ∃ v, ker n a (m + 1) = v := ⟨_, rfl⟩
      obtain ⟨x, hxx⟩ : ∃ v, a m = v := ⟨_, rfl⟩
      rw [hv, hv', hxx] at hand
      rw [hv]
      rw [hxx] at hcell
      have Hv := Lib.hid hv'
      clear hv hv' hxx
      go_wp2_with fail
      exact ⟨⟨m + 1, by omega, by go_num, by rw [← Hv.out]⟩, by simp [intOf]; omega⟩
    · have hmn : m = n := by omega
      subst hmn
      go_wp2_with fail
      go_ret
      exact ⟨rfl, hB⟩

set_option maxHeartbeats 400000 in
theorem rkernel_ok (n : Nat) (a : Nat → Nat) (ha : WF n a) (ra : Rng (fun p => (a p : Int))) (w : World) :
    Calls Tryd.prog 22 #[gv n a] w fun e w' => e = .returned (.tuple #[.int .i64 ((ker n a n : Nat) : Int), .int .i64 0]) ∧ Below w.heap.size w w' := by
  have HC := Lib.hid (fun w => rcheck_yes (n : Int) _ ra (wfi_of ha) w)
  have Ha := Lib.hid ha
  clear ha ra
  go_enter Tryd.func22, Tryd.ntmps22
  go_wp2_with fail
  refine (HC.out _).mono ?_
  rintro e w1 ⟨rfl, hb1⟩
  obtain ⟨hc, hf⟩ := bcell hb1
  have hz : w.heap.size < w1.heap.size := by have := hb1.size; simp at this; omega
  have B1 := fresh_below hb1
  go_wp2_with fail
  refine (rcommon_ok n a Ha.out _).mono ?_
  rintro e w2 ⟨rfl, hb2⟩
  go_wp2_with fail
  go_ret2
  exact ⟨rfl, B1.trans (Joins.below_le hb2 B1.size)⟩

set_option maxHeartbeats 1000000 in
theorem roots_ok (n : Nat) (a : Nat → Nat) (ha : WF n a) (ra : Rng (fun p => (a p : Int))) (w : World) :
    Calls Tryd.prog 23 #[gv n a] w fun e w' => e = .returned (.tuple #[.int .i64 ((ker n (rt n a n) n : Nat) : Int), .int .i64 0]) ∧ Below w.heap.size w w' := by
  have h1 : 1 ≤ n := ha.1.1
  have h5 : n ≤ 5 := ha.1.2
  have Ha := Lib.hid ha
  have Ra := Lib.hid ra
  have HP := Lib.hid (fun k w => product_ok n (rt n a k) a (wf_rt ha k) ha w)
  clear ha ra
  go_enter Tryd.func23, Tryd.ntmps23
  go_wp2_with fail
  refine (check_ok n a Ha.out _).mono ?_
  rintro e w1 ⟨rfl, hb1⟩
  have YA : Box w1 w.heap.size #[.int .i64 (n : Int), .int .i64 (a 0 : Int), .int .i64 (a 1 : Int), .int .i64 (a 2 : Int), .int .i64 (a 3 : Int), .int .i64 (a 4 : Int)] 24 := (Box.new w _ _).below hb1 (by simp)
  have B1 := fresh_below hb1
  have hz : w.heap.size < w1.heap.size := YA.lt
  clear hb1
  obtain ⟨⟨y0, y1, y2, y3, y4, y5⟩, _⟩ := YA.six
  go_wp2_with fail
  obtain ⟨W, hW⟩ : ∃ W, w1.alloc (.cells #[.int .i64 (n : Int), .int .i64 (a 0 : Int), .int .i64 (a 1 : Int), .int .i64 (a 2 : Int), .int .i64 (a 3 : Int), .int .i64 (a 4 : Int)] 24) = W := ⟨_, rfl⟩
  rw [hW]
  have XA : Box W w.heap.size #[.int .i64 (n : Int), .int .i64 (a 0 : Int), .int .i64 (a 1 : Int), .int .i64 (a 2 : Int), .int .i64 (a 3 : Int), .int .i64 (a 4 : Int)] 24 := hW ▸ YA.alloc _
  have XP : Box W w1.heap.size (gcells n (rt n a 0)) 24 := hW ▸ Box.at_ (by simp) _ _
  have B2 : Below w.heap.size w W := hW ▸ B1.alloc B1.size _
  clear hW YA B1 y0 y1 y2 y3 y4 y5
  obtain ⟨R, hR⟩ : ∃ R, w1.heap.size = R := ⟨_, rfl⟩
  rw [hR] at XP hz ⊢
  have HXA := Lib.hid XA
  have HB2 := Lib.hid B2
  clear hR XA B2
  go_loopw [14] (fun j wr => ∃ k : Nat, k ≤ n ∧ j = .int .i64 k ∧ Below R W wr ∧ Box wr R (gcells n (rt n a k)) 24) (fun j _ => n - (intOf j).toNat)
  case atStart => exact ⟨0, by omega, rfl, Below.refl _ _, XP⟩
  case round =>
    obtain ⟨k, hk, rfl, hB, hX⟩ := hrel
    clear XP
    have hA := HXA.out.below hB hz
    have hlA := hA.lt
    have hlR := hX.lt
    obtain ⟨⟨y0, y1, y2, y3, y4, y5⟩, _⟩ := hA.six
    by_cases hlt : k < n
    · have hX' := hX
      unfold gcells at hX'
      obtain ⟨⟨q0, q1, q2, q3, q4, q5⟩, _⟩ := hX'.six
      have HX := Lib.hid hX'
      have HB := Lib.hid hB
      clear hX hX' hB hA
      go_wp2_with fail
      refine (HP.out k _).mono ?_
      rintro e wz ⟨rfl, hbz⟩
      have hX2 := HX.out.below hbz hlR
      have hB2 := HB.out.trans (Joins.below_le hbz (Nat.le_of_lt hlR))
      clear q0 q1 q2 q3 q4 q5 y0 y1 y2 y3 y4 y5 HX HB hbz
      obtain ⟨⟨q0, q1, q2, q3, q4, q5⟩, f0, f1, f2, f3, f4, f5⟩ := hX2.six
      have hlz := hX2.lt
      have HX := Lib.hid (hX2.put6 (.int .i64 (n : Int)) (.int .i64 ((prod n (rt n a k) a 0 : Nat) : Int)) (.int .i64 ((prod n (rt n a k) a 1 : Nat) : Int)) (.int .i64 ((prod n (rt n a k) a 2 : Nat) : Int)) (.int .i64 ((prod n (rt n a k) a 3 : Nat) : Int)) (.int .i64 ((prod n (rt n a k) a 4 : Nat) : Int)))
      have HB := Lib.hid (below_put6 hB2 (Nat.le_refl R) (.int .i64 (n : Int)) (.int .i64 ((prod n (rt n a k) a 0 : Nat) : Int)) (.int .i64 ((prod n (rt n a k) a 1 : Nat) : Int)) (.int .i64 ((prod n (rt n a k) a 2 : Nat) : Int)) (.int .i64 ((prod n (rt n a k) a 3 : Nat) : Int)) (.int .i64 ((prod n (rt n a k) a 4 : Nat) : Int)))
      clear hX2 hB2
      go_wp2_with fail
      exact ⟨⟨k + 1, by omega, by go_num, HB.out, HX.out⟩, by simp [intOf]; omega⟩
    · have hkn : k = n := by omega
      subst hkn
      have hw := wf_rt Ha.out k
      unfold gcells at hX
      obtain ⟨⟨q0, q1, q2, q3, q4, q5⟩, _⟩ := hX.six
      have HB := Lib.hid hB
      clear hA hX hB
      go_wp2_with fail
      refine (kernel_ok k (rt k a k) hw _).mono ?_
      rintro e w3 ⟨rfl, hb3⟩
      have B3 := (HB2.out.trans (Joins.below_le HB.out (Nat.le_of_lt hz)))
      have B4 := B3.trans (Joins.below_le hb3 B3.size)
      go_wp2_with fail
      go_ret2
      exact ⟨rfl, B4⟩

set_option maxHeartbeats 1000000 in
theorem rroots_ok (n : Nat) (a : Nat → Nat) (ha : WF n a) (ra : Rng (fun p => (a p : Int))) (w : World) :
    Calls Tryd.prog 24 #[gv n a] w fun e w' => e = .returned (.tuple #[.int .i64 ((ker n (rt n a n) n : Nat) : Int), .int .i64 0]) ∧ Below w.heap.size w w' := by
  have h1 : 1 ≤ n := ha.1.1
  have h5 : n ≤ 5 := ha.1.2
  have Ha := Lib.hid ha
  have Ra := Lib.hid ra
  have HP := Lib.hid (fun k w => rproduct_ok n (rt n a k) a (wf_rt ha k) ha w)
  clear ha ra
  go_enter Tryd.func24, Tryd.ntmps24
  go_wp2_with fail
  refine (rcheck_yes (n : Int) _ Ra.out (wfi_of Ha.out) _).mono ?_
  rintro e w1 ⟨rfl, hb1⟩
  have YA : Box w1 w.heap.size #[.int .i64 (n : Int), .int .i64 (a 0 : Int), .int .i64 (a 1 : Int), .int .i64 (a 2 : Int), .int .i64 (a 3 : Int), .int .i64 (a 4 : Int)] 24 := (Box.new w _ _).below hb1 (by simp)
  have B1 := fresh_below hb1
  have hz : w.heap.size < w1.heap.size := YA.lt
  clear hb1
  obtain ⟨⟨y0, y1, y2, y3, y4, y5⟩, _⟩ := YA.six
  go_wp2_with fail
  obtain ⟨W, hW⟩ : ∃ W, w1.alloc (.cells #[.int .i64 (n : Int), .int .i64 (a 0 : Int), .int .i64 (a 1 : Int), .int .i64 (a 2 : Int), .int .i64 (a 3 : Int), .int .i64 (a 4 : Int)] 24) = W := ⟨_, rfl⟩
  rw [hW]
  have XA : Box W w.heap.size #[.int .i64 (n : Int), .int .i64 (a 0 : Int), .int .i64 (a 1 : Int), .int .i64 (a 2 : Int), .int .i64 (a 3 : Int), .int .i64 (a 4 : Int)] 24 := hW ▸ YA.alloc _
  have XP : Box W w1.heap.size (gcells n (rt n a 0)) 24 := hW ▸ Box.at_ (by simp) _ _
  have B2 : Below w.heap.size w W := hW ▸ B1.alloc B1.size _
  clear hW YA B1 y0 y1 y2 y3 y4 y5
  obtain ⟨R, hR⟩ : ∃ R, w1.heap.size = R := ⟨_, rfl⟩
  rw [hR] at XP hz ⊢
  have HXA := Lib.hid XA
  have HB2 := Lib.hid B2
  clear hR XA B2
  go_loopw [6] (fun j wr => ∃ k : Nat, k ≤ n ∧ j = .int .i64 k ∧ Below R W wr ∧ Box wr R (gcells n (rt n a k)) 24) (fun j _ => n - (intOf j).toNat)
  case atStart => exact ⟨0, by omega, rfl, Below.refl _ _, XP⟩
  case round =>
    obtain ⟨k, hk, rfl, hB, hX⟩ := hrel
    clear XP
    have hA := HXA.out.below hB hz
    have hlA := hA.lt
    have hlR := hX.lt
    obtain ⟨⟨y0, y1, y2, y3, y4, y5⟩, _⟩ := hA.six
    by_cases hlt : k < n
    · have hX' := hX
      unfold gcells at hX'
      obtain ⟨⟨q0, q1, q2, q3, q4, q5⟩, _⟩ := hX'.six
      have HX := Lib.hid hX'
      have HB := Lib.hid hB
      clear hX hX' hB hA
      go_wp2_with fail
      refine (HP.out k _).mono ?_
      rintro e wz ⟨rfl, hbz⟩
      have hX2 := HX.out.below hbz hlR
      have hB2 := HB.out.trans (Joins.below_le hbz (Nat.le_of_lt hlR))
      clear q0 q1 q2 q3 q4 q5 y0 y1 y2 y3 y4 y5 HX HB hbz
      obtain ⟨⟨q0, q1, q2, q3, q4, q5⟩, f0, f1, f2, f3, f4, f5⟩ := hX2.six
      have hlz := hX2.lt
      have HX := Lib.hid (hX2.put6 (.int .i64 (n : Int)) (.int .i64 ((prod n (rt n a k) a 0 : Nat) : Int)) (.int .i64 ((prod n (rt n a k) a 1 : Nat) : Int)) (.int .i64 ((prod n (rt n a k) a 2 : Nat) : Int)) (.int .i64 ((prod n (rt n a k) a 3 : Nat) : Int)) (.int .i64 ((prod n (rt n a k) a 4 : Nat) : Int)))
      have HB := Lib.hid (below_put6 hB2 (Nat.le_refl R) (.int .i64 (n : Int)) (.int .i64 ((prod n (rt n a k) a 0 : Nat) : Int)) (.int .i64 ((prod n (rt n a k) a 1 : Nat) : Int)) (.int .i64 ((prod n (rt n a k) a 2 : Nat) : Int)) (.int .i64 ((prod n (rt n a k) a 3 : Nat) : Int)) (.int .i64 ((prod n (rt n a k) a 4 : Nat) : Int)))
      clear hX2 hB2
      go_wp2_with fail
      exact ⟨⟨k + 1, by omega, by go_num, HB.out, HX.out⟩, by simp [intOf]; omega⟩
    · have hkn : k = n := by omega
      subst hkn
      have hw := wf_rt Ha.out k
      unfold gcells at hX
      obtain ⟨⟨q0, q1, q2, q3, q4, q5⟩, _⟩ := hX.six
      have HB := Lib.hid hB
      clear hA hX hB
      go_wp2_with fail
      refine (rcommon_ok k (rt k a k) hw _).mono ?_
      rintro e w3 ⟨rfl, hb3⟩
      have B3 := (HB2.out.trans (Joins.below_le HB.out (Nat.le_of_lt hz)))
      have B4 := B3.trans (Joins.below_le hb3 B3.size)
      go_wp2_with fail
      go_ret2
      exact ⟨rfl, B4⟩

/-- Whether any two rows of the first n have a common element. -/
def nsp (n : Nat) (a : Nat → Nat) : Bool := decide (∀ p, p < n → ∀ q, q < p → a p &&& a q ≠ 0)

theorem slice_arr0_nonsplit (n : Nat) (hn : n ≤ 5) (A o : Nat) (w : World) :
    (Instr.sliceAt 22 (.pointer (some ⟨A, o, none⟩)) none (some (.int .i64 (n : Int))) none).run Tryd.prog w = .ok (.slice (some ⟨A, o, none⟩) n 5) w := by
  obtain rfl | rfl | rfl | rfl | rfl | rfl : n = 0 ∨ n = 1 ∨ n = 2 ∨ n = 3 ∨ n = 4 ∨ n = 5 := by omega
  all_goals kernel_rfl

set_option maxHeartbeats 2000000 in
theorem nonsplit_ok (n : Nat) (a : Nat → Nat) (ha : WF n a) (ra : Rng (fun p => (a p : Int))) (w : World) :
    Calls Tryd.prog 25 #[gv n a] w fun e w' => e = .returned (.tuple #[.bool (nsp n a), .int .i64 0]) ∧ Below w.heap.size w w' := by
  have h1 : 1 ≤ n := ha.1.1
  have h5 : n ≤ 5 := ha.1.2
  have Ha := Lib.hid ha
  have Ra := Lib.hid ra
  have Hand := Lib.hid (fun p q (hp : p < n) (hq : q < n) => i64_and_nat (a p) (a q) (pow_small h5 (ha.2.1 p hp).1) (pow_small h5 (ha.2.1 q hq).1))
  clear ha ra
  have hsl := slice_arr0_nonsplit n h5 w.heap.size 1
  go_enter Tryd.func25, Tryd.ntmps25
  go_wp2_with fail
  refine (check_ok n a Ha.out _).mono ?_
  rintro e w1 ⟨rfl, hb1⟩
  have YA : Box w1 w.heap.size #[.int .i64 (n : Int), .int .i64 (a 0 : Int), .int .i64 (a 1 : Int), .int .i64 (a 2 : Int), .int .i64 (a 3 : Int), .int .i64 (a 4 : Int)] 24 := (Box.new w _ _).below hb1 (by simp)
  have B1 := fresh_below hb1
  have hz : w.heap.size < w1.heap.size := YA.lt
  have HA := Lib.hid (fun m (hm : m < 5) => cell_row (n := n) (k := a) (fun i _ => YA.cell i) hm)
  have hcn : w1.cell? ⟨w.heap.size, 0, none⟩ = some (.int .i64 (n : Int)) := YA.cell 0
  clear hb1 YA
  go_wp2_with fail
  go_loopw [19] (fun j wr => ∃ p : Nat, p ≤ n ∧ j = .int .i64 p ∧ (∃ d, wr = w1.drewN d) ∧ ∀ x, x < p → ∀ y, y < x → a x &&& a y ≠ 0) (fun j _ => n - (intOf j).toNat)
  case atStart => exact ⟨0, by omega, rfl, ⟨0, rfl⟩, fun x hx => by omega⟩
  case round =>
    obtain ⟨p, hp, rfl, ⟨d, rfl⟩, hall⟩ := hrel
    have Hall := Lib.hid hall
    clear hall hsl
    by_cases hlt : p < n
    · have hcp := HA.out p (by omega)
      have hslp := slice_arr0_nonsplit p (by omega) w.heap.size 1
      obtain ⟨x, hxx⟩ : ∃ x, a p = x := ⟨_, rfl⟩
      rw [hxx] at hcp
      have Hx := Lib.hid hxx
      clear hxx
      go_wp2_with fail
      obtain ⟨wo, hwo⟩ : ∃ wo : World, wo = w1.drewN d := ⟨_, rfl⟩
      rw [← hwo]
      have Hwo := Lib.hid hwo
      have HA2 : Hid (∀ m, m < 5 → wo.cell? ⟨w.heap.size, 1 + m, none⟩ = some (.int .i64 (a m : Int))) := Lib.hid (fun m hm => by rw [hwo]; exact HA.out m hm)
      have hzo : w.heap.size < wo.heap.size := by rw [hwo]; exact hz
      clear hwo
      go_loopw [28] (fun j wr => ∃ q : Nat, q ≤ p ∧ j = .int .i64 q ∧ (∃ d, wr = wo.drewN d) ∧ ∀ y, y < q → a p &&& a y ≠ 0) (fun j _ => p - (intOf j).toNat)
      case atStart => exact ⟨0, by omega, rfl, ⟨0, rfl⟩, fun y hy => by omega⟩
      case round =>
        obtain ⟨q, hq, rfl, ⟨d2, rfl⟩, hne⟩ := hrel
        have Hne := Lib.hid hne
        clear hne
        by_cases hqp : q < p
        · have hcq := HA2.out q (by omega)
          have hcp2 := HA2.out p (by omega)
          have hand := Hand.out p q hlt (by omega)
          rw [Hx.out] at hand hcp2
          obtain ⟨y, hyy⟩ : ∃ y, a q = y := ⟨_, rfl⟩
          rw [hyy] at hand hcq
          have Hy := Lib.hid hyy
          clear hyy
          by_cases hzr : x &&& y = 0
          · rw [hzr] at hand
            have hres : nsp n a = false := decide_eq_false (fun h => h p hlt q hqp (by rw [Hx.out, Hy.out]; exact hzr))
            have Hres := Lib.hid hres
            clear hzr hres
            go_wp2_with fail


            go_ret2
            exact ⟨by rw [Hres.out]; rfl, by
              rw [Hwo.out]
              first | exact below_dn _ B1 | exact below_dn _ (below_dn _ B1) | exact below_dn _ (below_dn _ (below_dn _ B1)) | exact below_dn 1 (below_dn _ (below_dn _ B1))⟩
          · have hb : (((x &&& y : Nat) : Int) == 0) = false := by rw [beq_eq_false_iff_ne]; omega
            obtain ⟨z, hzz⟩ : ∃ z, x &&& y = z := ⟨_, rfl⟩
            rw [hzz] at hand hb
            have Hz : Hid (a p &&& a q ≠ 0) := Lib.hid (by rw [Hx.out, Hy.out]; exact hzr)
            clear hzr hzz
            go_wp2_with fail


            exact ⟨⟨q + 1, by omega, by go_num, ⟨d2, by first | rfl | (simp only [World.drewN_drewN]; rfl)⟩, fun y hy => by
              rcases Nat.lt_or_eq_of_le (Nat.lt_succ_iff.1 hy) with h | h
              · exact Hne.out y h
              · rw [h]; exact Hz.out⟩, by simp [intOf]; omega⟩
        · have hqe : q = p := by omega
          subst hqe
          go_wp2_with fail
          exact ⟨⟨q + 1, by omega, by go_num, ⟨_, by rw [Hwo.out, World.drewN_drewN]⟩, fun u hu v hv => by
            rcases Nat.lt_or_eq_of_le (Nat.lt_succ_iff.1 hu) with h | h
            · exact Hall.out u h v hv
            · rw [h] at hv ⊢; exact Hne.out v hv⟩, by simp [intOf]; omega⟩
    · have hpn : p = n := by omega
      subst hpn
      have hres : nsp p a = true := decide_eq_true Hall.out
      have Hres := Lib.hid hres
      clear hres
      go_wp2_with fail
      go_ret2
      exact ⟨by rw [Hres.out]; rfl, below_dn _ B1⟩

theorem slice_arr0_rnonsplit (n : Nat) (hn : n ≤ 5) (A o : Nat) (w : World) :
    (Instr.sliceAt 22 (.pointer (some ⟨A, o, none⟩)) none (some (.int .i64 (n : Int))) none).run Tryd.prog w = .ok (.slice (some ⟨A, o, none⟩) n 5) w := by
  obtain rfl | rfl | rfl | rfl | rfl | rfl : n = 0 ∨ n = 1 ∨ n = 2 ∨ n = 3 ∨ n = 4 ∨ n = 5 := by omega
  all_goals kernel_rfl

set_option maxHeartbeats 2000000 in
theorem rnonsplit_ok (n : Nat) (a : Nat → Nat) (ha : WF n a) (ra : Rng (fun p => (a p : Int))) (w : World) :
    Calls Tryd.prog 26 #[gv n a] w fun e w' => e = .returned (.tuple #[.bool (nsp n a), .int .i64 0]) ∧ Below w.heap.size w w' := by
  have h1 : 1 ≤ n := ha.1.1
  have h5 : n ≤ 5 := ha.1.2
  have Ha := Lib.hid ha
  have Ra := Lib.hid ra
  have Hand := Lib.hid (fun p q (hp : p < n) (hq : q < n) => i64_and_nat (a p) (a q) (pow_small h5 (ha.2.1 p hp).1) (pow_small h5 (ha.2.1 q hq).1))
  clear ha ra
  have hsl := slice_arr0_rnonsplit n h5 w.heap.size 1
  go_enter Tryd.func26, Tryd.ntmps26
  go_wp2_with fail
  refine (rcheck_yes (n : Int) _ Ra.out (wfi_of Ha.out) _).mono ?_
  rintro e w1 ⟨rfl, hb1⟩
  have YA : Box w1 w.heap.size #[.int .i64 (n : Int), .int .i64 (a 0 : Int), .int .i64 (a 1 : Int), .int .i64 (a 2 : Int), .int .i64 (a 3 : Int), .int .i64 (a 4 : Int)] 24 := (Box.new w _ _).below hb1 (by simp)
  have B1 := fresh_below hb1
  have hz : w.heap.size < w1.heap.size := YA.lt
  have HA := Lib.hid (fun m (hm : m < 5) => cell_row (n := n) (k := a) (fun i _ => YA.cell i) hm)
  have hcn : w1.cell? ⟨w.heap.size, 0, none⟩ = some (.int .i64 (n : Int)) := YA.cell 0
  clear hb1 YA
  go_wp2_with fail
  go_loopw [5] (fun j wr => ∃ p : Nat, p ≤ n ∧ j = .int .i64 p ∧ (∃ d, wr = w1.drewN d) ∧ ∀ x, x < p → ∀ y, y < x → a x &&& a y ≠ 0) (fun j _ => n - (intOf j).toNat)
  case atStart => exact ⟨0, by omega, rfl, ⟨0, rfl⟩, fun x hx => by omega⟩
  case round =>
    obtain ⟨p, hp, rfl, ⟨d, rfl⟩, hall⟩ := hrel
    have Hall := Lib.hid hall
    clear hall hsl
    by_cases hlt : p < n
    · have hcp := HA.out p (by omega)
      have hslp := slice_arr0_rnonsplit p (by omega) w.heap.size 1
      obtain ⟨x, hxx⟩ : ∃ x, a p = x := ⟨_, rfl⟩
      rw [hxx] at hcp
      have Hx := Lib.hid hxx
      clear hxx
      go_wp2_with fail
      obtain ⟨wo, hwo⟩ : ∃ wo : World, wo = w1.drewN d := ⟨_, rfl⟩
      rw [← hwo]
      have Hwo := Lib.hid hwo
      have HA2 : Hid (∀ m, m < 5 → wo.cell? ⟨w.heap.size, 1 + m, none⟩ = some (.int .i64 (a m : Int))) := Lib.hid (fun m hm => by rw [hwo]; exact HA.out m hm)
      have hzo : w.heap.size < wo.heap.size := by rw [hwo]; exact hz
      clear hwo
      go_loopw [6] (fun j wr => ∃ q : Nat, q ≤ p ∧ j = .int .i64 q ∧ (∃ d, wr = wo.drewN d) ∧ ∀ y, y < q → a p &&& a y ≠ 0) (fun j _ => p - (intOf j).toNat)
      case atStart => exact ⟨0, by omega, rfl, ⟨0, rfl⟩, fun y hy => by omega⟩
      case round =>
        obtain ⟨q, hq, rfl, ⟨d2, rfl⟩, hne⟩ := hrel
        have Hne := Lib.hid hne
        clear hne
        by_cases hqp : q < p
        · have hcq := HA2.out q (by omega)
          have hcp2 := HA2.out p (by omega)
          have hand := Hand.out p q hlt (by omega)
          rw [Hx.out] at hand hcp2
          obtain ⟨y, hyy⟩ : ∃ y, a q = y := ⟨_, rfl⟩
          rw [hyy] at hand hcq
          have Hy := Lib.hid hyy
          clear hyy
          by_cases hzr : x &&& y = 0
          · rw [hzr] at hand
            have hres : nsp n a = false := decide_eq_false (fun h => h p hlt q hqp (by rw [Hx.out, Hy.out]; exact hzr))
            have Hres := Lib.hid hres
            clear hzr hres
            go_wp2_with fail
            go_region
            all_goals go_wp2_with fail
            all_goals go_ret2
            all_goals exact ⟨by rw [Hres.out]; rfl, by
              rw [Hwo.out]
              first | exact below_dn _ B1 | exact below_dn _ (below_dn _ B1) | exact below_dn _ (below_dn _ (below_dn _ B1)) | exact below_dn 1 (below_dn _ (below_dn _ B1))⟩
          · have hb : (((x &&& y : Nat) : Int) == 0) = false := by rw [beq_eq_false_iff_ne]; omega
            obtain ⟨z, hzz⟩ : ∃ z, x &&& y = z := ⟨_, rfl⟩
            rw [hzz] at hand hb
            have Hz : Hid (a p &&& a q ≠ 0) := Lib.hid (by rw [Hx.out, Hy.out]; exact hzr)
            clear hzr hzz
            go_wp2_with fail
            go_region
            all_goals go_wp2_with fail
            all_goals exact ⟨⟨q + 1, by omega, by go_num, ⟨d2 + 1, by first | rfl | (simp only [World.drewN_drewN]; rfl)⟩, fun y hy => by
              rcases Nat.lt_or_eq_of_le (Nat.lt_succ_iff.1 hy) with h | h
              · exact Hne.out y h
              · rw [h]; exact Hz.out⟩, by simp [intOf]; omega⟩
        · have hqe : q = p := by omega
          subst hqe
          go_wp2_with fail
          exact ⟨⟨q + 1, by omega, by go_num, ⟨_, by rw [Hwo.out, World.drewN_drewN]⟩, fun u hu v hv => by
            rcases Nat.lt_or_eq_of_le (Nat.lt_succ_iff.1 hu) with h | h
            · exact Hall.out u h v hv
            · rw [h] at hv ⊢; exact Hne.out v hv⟩, by simp [intOf]; omega⟩
    · have hpn : p = n := by omega
      subst hpn
      have hres : nsp p a = true := decide_eq_true Hall.out
      have Hres := Lib.hid hres
      clear hres
      go_wp2_with fail
      go_ret2
      exact ⟨by rw [Hres.out]; rfl, below_dn _ B1⟩
end Go.Proofs.YtlkhbfaoebgmkaaDoor
