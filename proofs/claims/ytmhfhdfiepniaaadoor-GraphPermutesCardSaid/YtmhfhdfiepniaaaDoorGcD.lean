/- The specification's functions on well-formed graphs: products, reversed and renamed graphs, unions. -/
import Derived.Test.YtmhfhdfiepniaaaDoorGcC
import Derived.Test.YtmhfhdfiepniaaaDoorGcB
import Derived.Test.YtmhfhdfiepniaaaDoorGrN
import Derived.Test.YtmhfhdfiepniaaaDoorPmA
import Derived.Test.YtmhfhdfiepniaaaDoorPmM
import Derived.Test.YtmhfhdfiepniaaaDoorPmD
import Derived.Test.YtmhfhdfiepniaaaDoorGrR
import Derived.Test.YtmhfhdfiepniaaaDoorTb
import Derived.LoopTactic
import Derived.Deep.RegionWith
import Derived.WalkKit
import Derived.WalkSpells
import Derived.WalkLawsBesides
import Derived.Handy
import Derived.Deep.QuietTactic
import Derived.BigQuiet
import Derived.Outline
import Derived.Laws.BitsAllLaws
import Derived.IntWalk
import Derived.Lib.SmallJoins
import Derived.Lib.Hide
namespace Go.Proofs.YtmhfhdfiepniaaaDoor
set_option linter.unusedVariables false
set_option linter.unusedSimpArgs false
open Go.RowKit

set_option maxHeartbeats 1000000 in
theorem rcompose_ok (n : Nat) (a b : Nat → Nat) (ha : WF n a) (hb : WF n b) (ra : Rng (fun p => (a p : Int))) (rb : Rng (fun p => (b p : Int))) (w : World) :
    Calls Tryd.prog 8 #[gv n a, gv n b] w fun e w' => e = .returned (.tuple #[gv n (prod n a b), .int .i64 0]) ∧ Below w.heap.size w w' := by
  have HC := Lib.hid (fun w => both_yes (n : Int) _ _ ra rb (wfi_of ha) (wfi_of hb) w)
  have HP := Lib.hid (fun w => rproduct_ok n a b ha hb w)
  clear ha hb ra rb
  go_enter Tryd.func8, Tryd.ntmps8
  go_wp2_with fail
  refine (HC.out _).mono ?_
  rintro e w1 ⟨rfl, hb1⟩
  obtain ⟨hc, hf⟩ := bcell hb1
  have hz : w.heap.size + 1 + 1 < w1.heap.size := by have := hb1.size; simp at this; omega
  have hz0 : w.heap.size < w1.heap.size := by omega
  have hz1 : w.heap.size + 1 < w1.heap.size := by omega
  have B1 : Below w.heap.size w w1 := ((((Below.refl w.heap.size w).alloc (Nat.le_refl _) _).alloc (by simp) _).alloc (by simp; omega) _).trans (Joins.below_le hb1 (by simp; omega))
  go_wp2_with fail
  refine (HP.out _).mono ?_
  rintro e w2 ⟨rfl, hb2⟩
  obtain ⟨hc2, hf2⟩ := bcell hb2
  have q : ∀ i, w2.cell? ⟨w.heap.size + 1 + 1, i, none⟩ = (#[.int .i64 0, .int .i64 0, .int .i64 0, .int .i64 0, .int .i64 0, .int .i64 0] : Array Value)[i]? := fun i =>
    (hc2 _ _ hz).trans ((hc _ _ (by simp)).trans (Joins.cell_alloc_mark_at _ _ _ (0, 0) _ i (by simp)))
  have q0 := q 0
  have q1 := q 1
  have q2 := q 2
  have q3 := q 3
  have q4 := q 4
  have q5 := q 5
  clear q
  simp at q0 q1 q2 q3 q4 q5
  have B2 := B1.trans (Joins.below_le hb2 B1.size)
  go_wp2_with fail
  refine bodyPost_ret (v := .tuple #[gv n (prod n a b), .int .i64 0]) (by simp [results, Tryd.results8, go_sem, q0, q1, q2, q3, q4, q5]) rfl ⟨rfl, ?_⟩
  repeat' (first | (with_reducible exact B2) | (with_reducible refine Below.setCell ?_ ?_ _) | go_size)

theorem rcol_bit {a : Nat → Nat} {p m n : Nat} (hn : n ≤ 5) (hm : m < n) (h : a m / 2 ^ p % 2 = 1) : bits .or .i64 ((rcol a p m : Nat) : Int) ((2 ^ m : Nat) : Int) = ((rcol a p (m + 1) : Nat) : Int) := by
  have := rcol_in (a := a) (p := p) hn hm
  rw [h, Nat.one_mul] at this
  exact this
theorem rcol_out {a : Nat → Nat} {p m : Nat} (h : ¬ a m / 2 ^ p % 2 = 1) : rcol a p (m + 1) = rcol a p m := by
  have h0 : a m / 2 ^ p % 2 = 0 := by have := Nat.mod_lt (a m / 2 ^ p) (show 0 < 2 by omega); omega
  show rcol a p m ||| (a m / 2 ^ p % 2 * 2 ^ m) = _
  rw [h0]; simp

set_option maxHeartbeats 2000000 in
theorem rreverse_ok (n : Nat) (a : Nat → Nat) (ha : WF n a) (ra : Rng (fun p => (a p : Int))) (w : World) :
    Calls Tryd.prog 12 #[gv n a] w fun e w' => e = .returned (.tuple #[gv n (rev n a), .int .i64 0]) ∧ Below w.heap.size w w' := by
  have h1 : 1 ≤ n := ha.1.1
  have h5 : n ≤ 5 := ha.1.2
  have Har := Lib.hid (fun p (hp : p < n) => pow_small h5 (ha.2.1 p hp).1)
  have HC := Lib.hid (fun w => rcheck_yes (n : Int) _ ra (wfi_of ha) w)
  clear ha ra
  go_enter Tryd.func12, Tryd.ntmps12
  go_wp2_with fail
  refine (HC.out _).mono ?_
  rintro e w1 ⟨rfl, hb1⟩
  have YA : Box w1 w.heap.size #[.int .i64 (n : Int), .int .i64 (a 0 : Int), .int .i64 (a 1 : Int), .int .i64 (a 2 : Int), .int .i64 (a 3 : Int), .int .i64 (a 4 : Int)] 24 := ((Box.new w _ _).alloc _).below hb1 (by simp; omega)
  have YZ : Box w1 (w.heap.size + 1) #[.int .i64 0, .int .i64 0, .int .i64 0, .int .i64 0, .int .i64 0, .int .i64 0] 24 := (Box.at_ (by simp) _ _).below hb1 (by simp)
  have B1 : Below w.heap.size w w1 := (((Below.refl w.heap.size w).alloc (Nat.le_refl _) _).alloc (by simp) _).trans (Joins.below_le hb1 (by simp; omega))
  have hz1 : w.heap.size + 1 < w1.heap.size := YZ.lt
  have hz0 : w.heap.size < w1.heap.size := by omega
  have hcn1 := YA.cell 0
  simp at hcn1
  clear hb1 HC
  go_wp2_with fail
  obtain ⟨W, hW⟩ : ∃ W, w1.alloc (.cells #[.int .i64 (n : Int), .int .i64 0, .int .i64 0, .int .i64 0, .int .i64 0, .int .i64 0] 24) = W := ⟨_, rfl⟩
  rw [hW]
  have XA : Box W w.heap.size _ _ := hW ▸ YA.alloc _
  have XZ : Box W (w.heap.size + 1) _ _ := hW ▸ YZ.alloc _
  have XR : Box W w1.heap.size (gcells n (fillr (fun i => rcol a i n) 0 0)) 24 := hW ▸ Box.at_ (by simp) _ _
  have B2 : Below w.heap.size w W := hW ▸ B1.alloc B1.size _
  clear hW YA YZ B1 hcn1
  obtain ⟨R, hR⟩ : ∃ R, w1.heap.size = R := ⟨_, rfl⟩
  rw [hR] at XR hz1 hz0 ⊢
  have CA : Hid (∀ m, m < 5 → ∀ V, Below R W V → V.cell? ⟨w.heap.size, 1 + m, none⟩ = some (.int .i64 (a m : Int))) := Lib.hid (fun m hm V hV => cell_row (n := n) (k := a) (fun i _ => (XA.below hV hz0).cell i) hm)
  have CN : Hid (∀ V, Below R W V → V.cell? ⟨w.heap.size, 0, none⟩ = some (.int .i64 (n : Int))) := Lib.hid (fun V hV => (XA.below hV hz0).cell 0)
  have HXZ := Lib.hid XZ
  have HB1 := Lib.hid B2
  clear XA XZ B2 hR
  go_loopw [6] (fun j wr => ∃ p : Nat, p ≤ n ∧ j = .int .i64 p ∧ Below R W wr ∧ Box wr R (gcells n (fillr (fun i => rcol a i n) p 0)) 24) (fun j _ => n - (intOf j).toNat)
  case atStart => exact ⟨0, by omega, rfl, Below.refl _ _, XR⟩
  case round =>
    obtain ⟨p, hp, rfl, hB, hX⟩ := hrel
    clear XR
    have hcn := CN.out wr hB
    by_cases hlt : p < n
    · have HX := Lib.hid hX
      have HB := Lib.hid hB
      clear hX hB
      go_wp2_with fail
      go_loopw [7] (fun j wr => ∃ m : Nat, m ≤ n ∧ j = .int .i64 m ∧ Below R W wr ∧ Box wr R (gcells n (fillr (fun i => rcol a i n) p (rcol a p m))) 24) (fun j _ => n - (intOf j).toNat)
      case atStart => exact ⟨0, by omega, rfl, HB.out, HX.out⟩
      case round =>
        clear HX HB hcn
        obtain ⟨m, hm, rfl, hB, hX⟩ := hrel
        have hcn := CN.out wr hB
        by_cases hml : m < n
        · have hca := CA.out m (by omega) wr hB
          have hcr : wr.cell? ⟨R, 1 + p, none⟩ = some (.int .i64 ((rcol a p m : Nat) : Int)) := (hX.cell (1 + p)).trans ((gcells_get (by omega)).trans (by rw [fillr_at]))
          have hfr : wr.frozen? ⟨R, 1 + p, none⟩ = false := hX.open_ (1 + p)
          have hlR := hX.lt
          have hy := Har.out m hml
          have hhas := fun w => has_any p (by omega) (a m) hy w
          by_cases hbit : a m / 2 ^ p % 2 = 1
          · have hor := rcol_bit h5 hml hbit
            have hst := hX.set (1 + p) (.int .i64 ((rcol a p (m + 1) : Nat) : Int))
            rw [gcells_set (by omega), fillr_set] at hst
            rw [decide_eq_true hbit] at hhas
            obtain ⟨u, huu⟩ : ∃ u, rcol a p m = u := ⟨_, rfl⟩
            obtain ⟨v, hvv⟩ : ∃ v, rcol a p (m + 1) = v := ⟨_, rfl⟩
            obtain ⟨x, hxx⟩ : ∃ x, a m = x := ⟨_, rfl⟩
            rw [huu] at hcr hor
            rw [hvv] at hor hst
            rw [hxx] at hca hy hhas
            have Hvv : Hid (rcol a p (m + 1) = v) := Lib.hid hvv
            have Hst := Lib.hid hst
            have Hhas := Lib.hid hhas
            have HB := Lib.hid hB
            clear hX hB hbit hst hhas huu hvv hxx
            go_wp2_with fail
            refine (Hhas.out _).mono ?_
            rintro e w' ⟨rfl, rfl⟩
            clear Hhas hca
            obtain rfl | rfl | rfl | rfl | rfl : m = 0 ∨ m = 1 ∨ m = 2 ∨ m = 3 ∨ m = 4 := by omega
            all_goals
              simp only [Nat.reducePow, Nat.reduceAdd, Int.cast_ofNat_Int] at hor
              go_wp2_with fail
              go_region
              all_goals go_wp2_with fail
              all_goals
                refine ⟨⟨_, ?_, ?_, (HB.out.setCell (Nat.le_refl _) _).drew, by rw [Hvv.out]; exact Hst.out⟩, ?_⟩
                · omega
                · rfl
                · simp [intOf]; omega
          · have hor := rcol_out hbit
            rw [decide_eq_false hbit] at hhas
            have HX : Hid (Box wr R (gcells n (fillr (fun i => rcol a i n) p (rcol a p (m + 1)))) 24) := Lib.hid (by rw [hor]; exact hX)
            obtain ⟨x, hxx⟩ : ∃ x, a m = x := ⟨_, rfl⟩
            rw [hxx] at hca hy hhas
            have Hhas := Lib.hid hhas
            have HB := Lib.hid hB
            clear hX hB hbit hhas hxx hor hcr
            go_wp2_with fail
            refine (Hhas.out _).mono ?_
            rintro e w' ⟨rfl, rfl⟩
            go_wp2_with fail
            exact ⟨⟨m + 1, by omega, by go_num, HB.out, HX.out⟩, by simp [intOf]; omega⟩
        · have hmn : m = n := by omega
          subst hmn
          have HX : Hid (Box wr R (gcells m (fillr (fun i => rcol a i m) (p + 1) 0)) 24) := Lib.hid (by rw [← fillr_next]; exact hX)
          have HB := Lib.hid hB
          clear hX hB
          go_wp2_with fail
          exact ⟨⟨p + 1, by omega, by go_num, HB.out, HX.out⟩, by simp [intOf]; omega⟩
    · have hpn : p = n := by omega
      subst hpn
      have hX2 : Box wr R (gcells p (rev p a)) 24 := by
        rw [gcells_ext (g := fillr (fun i => rcol a i p) p 0) (fun i _ => by
          unfold rev fillr
          by_cases h : i < p
          · rw [if_pos h, if_pos h]
          · rw [if_neg h, if_neg h]; split <;> rfl)]
        exact hX
      clear hX
      unfold gcells at hX2
      obtain ⟨⟨q0, q1, q2, q3, q4, q5⟩, _⟩ := hX2.six
      have hlR := hX2.lt
      have hZ := HXZ.out.below hB hz1
      obtain ⟨⟨z0, z1, z2, z3, z4, z5⟩, zf0, zf1, zf2, zf3, zf4, zf5⟩ := hZ.six
      have hlZ := hZ.lt
      have B2 := HB1.out.trans (Joins.below_le hB (by omega))
      clear hX2 hZ hB HXZ HB1
      go_wp2_with fail
      refine bodyPost_ret (v := .tuple #[gv p (rev p a), .int .i64 0]) (by simp [results, Tryd.results12, go_sem, z0, z1, z2, z3, z4, z5]) rfl ⟨rfl, ?_⟩
      repeat' (first | (with_reducible exact B2) | (with_reducible refine Below.setCell ?_ ?_ _) | go_size)

/-- Rows of a, those before m united with those of b. -/
def orr (a b : Nat → Nat) (m i : Nat) : Nat := if i < m then a i ||| b i else a i
theorem orr_set (a b : Nat → Nat) (m : Nat) : (fun i => if i = m then a m ||| b m else orr a b m i) = orr a b (m + 1) := by
  funext i
  unfold orr
  by_cases h : i = m
  · subst h; simp
  · by_cases h2 : i < m
    · simp [h, h2, Nat.lt_succ_of_lt h2]
    · have h3 : ¬ i < m + 1 := by omega
      simp [h, h2, h3]

set_option maxHeartbeats 1000000 in
theorem runion_ok (n : Nat) (a b : Nat → Nat) (ha : WF n a) (hb : WF n b) (ra : Rng (fun p => (a p : Int))) (rb : Rng (fun p => (b p : Int))) (w : World) :
    Calls Tryd.prog 10 #[gv n a, gv n b] w fun e w' => e = .returned (.tuple #[gv n (fun p => a p ||| b p), .int .i64 0]) ∧ Below w.heap.size w w' := by
  have h1 : 1 ≤ n := ha.1.1
  have h5 : n ≤ 5 := ha.1.2
  have Hor := Lib.hid (fun p (hp : p < n) => i64_or_nat (a p) (b p) (pow_small h5 (ha.2.1 p hp).1) (pow_small h5 (hb.2.1 p hp).1))
  have Hz := Lib.hid (fun i (h : n ≤ i) (h' : i < 5) => And.intro (ha.2.2 i h h') (hb.2.2 i h h'))
  have HC := Lib.hid (fun w => both_yes (n : Int) _ _ ra rb (wfi_of ha) (wfi_of hb) w)
  clear ha hb ra rb
  go_enter Tryd.func10, Tryd.ntmps10
  go_wp2_with fail
  refine (HC.out _).mono ?_
  rintro e w1 ⟨rfl, hb1⟩
  have XA : Box w1 w.heap.size (gcells n (orr a b 0)) 24 := (((Box.new w _ _).alloc _).alloc _).below hb1 (by simp; omega)
  have XB : Box w1 (w.heap.size + 1) #[.int .i64 (n : Int), .int .i64 (b 0 : Int), .int .i64 (b 1 : Int), .int .i64 (b 2 : Int), .int .i64 (b 3 : Int), .int .i64 (b 4 : Int)] 24 := ((Box.at_ (by simp) _ _).alloc _).below hb1 (by simp)
  have XZ : Box w1 (w.heap.size + 1 + 1) #[.int .i64 0, .int .i64 0, .int .i64 0, .int .i64 0, .int .i64 0, .int .i64 0] 24 := (Box.at_ (by simp) _ _).below hb1 (by simp)
  have B1 : Below w.heap.size w w1 := ((((Below.refl w.heap.size w).alloc (Nat.le_refl _) _).alloc (by simp) _).alloc (by simp; omega) _).trans (Joins.below_le hb1 (by simp; omega))
  have hz : w.heap.size + 1 + 1 < w1.heap.size := XZ.lt
  clear hb1 HC
  go_wp2_with fail
  go_loopw [7] (fun j wr => ∃ m : Nat, m ≤ n ∧ j = .int .i64 m ∧ Below w.heap.size w wr ∧ Box wr w.heap.size (gcells n (orr a b m)) 24 ∧ Box wr (w.heap.size + 1) #[.int .i64 (n : Int), .int .i64 (b 0 : Int), .int .i64 (b 1 : Int), .int .i64 (b 2 : Int), .int .i64 (b 3 : Int), .int .i64 (b 4 : Int)] 24 ∧ Box wr (w.heap.size + 1 + 1) #[.int .i64 0, .int .i64 0, .int .i64 0, .int .i64 0, .int .i64 0, .int .i64 0] 24) (fun j _ => n - (intOf j).toNat)
  case atStart => exact ⟨0, by omega, rfl, B1, XA, XB, XZ⟩
  case round =>
    obtain ⟨m, hm, rfl, hB, hX, hXB, hXZ⟩ := hrel
    clear XA XB XZ B1
    have hcn : wr.cell? ⟨w.heap.size, 0, none⟩ = some (.int .i64 (n : Int)) := hX.cell 0
    have hlR := hX.lt
    by_cases hml : m < n
    · have hca : wr.cell? ⟨w.heap.size, 1 + m, none⟩ = some (.int .i64 ((a m : Nat) : Int)) := (hX.cell (1 + m)).trans ((gcells_get (by omega)).trans (by simp [orr]))
      have hfa : wr.frozen? ⟨w.heap.size, 1 + m, none⟩ = false := hX.open_ (1 + m)
      have hcb : wr.cell? ⟨w.heap.size + 1, 1 + m, none⟩ = some (.int .i64 ((b m : Nat) : Int)) := cell_row (n := n) (k := b) (fun i _ => hXB.cell i) (by omega)
      have hor := Hor.out m hml
      have hst := hX.set (1 + m) (.int .i64 ((a m ||| b m : Nat) : Int))
      rw [gcells_set (by omega), orr_set] at hst
      obtain ⟨x, hxx⟩ : ∃ x, a m = x := ⟨_, rfl⟩
      obtain ⟨y, hyy⟩ : ∃ y, b m = y := ⟨_, rfl⟩
      rw [hxx] at hca hor hst
      rw [hyy] at hcb hor hst
      obtain ⟨v, hvv⟩ : ∃ v, x ||| y = v := ⟨_, rfl⟩
      rw [hvv] at hor hst
      have Hst := Lib.hid hst
      have HB := Lib.hid hB
      have HXB := Lib.hid hXB
      have HXZ := Lib.hid hXZ
      clear hX hB hst hXB hXZ hxx hyy hvv
      go_wp2_with fail
      go_region
      all_goals go_wp2_with fail
      all_goals exact ⟨⟨m + 1, by omega, by go_num, (HB.out.setCell (Nat.le_refl _) _).drew, Hst.out, (HXB.out.setOther (by omega) _), (HXZ.out.setOther (by omega) _)⟩, by simp [intOf]; omega⟩
    · have hpn : m = n := by omega
      subst hpn
      have hX2 : Box wr w.heap.size (gcells m (fun p => a p ||| b p)) 24 := by
        rw [gcells_ext (g := orr a b m) (fun i hi => by
          unfold orr
          by_cases h : i < m
          · rw [if_pos h]
          · rw [if_neg h, (Hz.out i (by omega) hi).1, (Hz.out i (by omega) hi).2]; rfl)]
        exact hX
      clear hX
      unfold gcells at hX2
      obtain ⟨⟨q0, q1, q2, q3, q4, q5⟩, _⟩ := hX2.six
      obtain ⟨⟨z0, z1, z2, z3, z4, z5⟩, zf0, zf1, zf2, zf3, zf4, zf5⟩ := hXZ.six
      have hlZ := hXZ.lt
      have B2 := Lib.hid hB
      clear hX2 hXZ hXB hB
      go_wp2_with fail
      refine bodyPost_ret (v := .tuple #[gv m (fun p => a p ||| b p), .int .i64 0]) (by simp [results, Tryd.results10, go_sem, z0, z1, z2, z3, z4, z5]) rfl ⟨rfl, ?_⟩
      have B3 := B2.out
      repeat' (first | (with_reducible exact B3) | (with_reducible refine Below.setCell ?_ ?_ _) | go_size)
end Go.Proofs.YtmhfhdfiepniaaaDoor
