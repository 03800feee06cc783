/- The specification's product of two well-formed graphs. -/
import Derived.Test.YtacnhklhimogkaaDoorGcB
import Derived.Test.YtacnhklhimogkaaDoorGrN
import Derived.Test.YtacnhklhimogkaaDoorPmA
import Derived.Test.YtacnhklhimogkaaDoorPmM
import Derived.Test.YtacnhklhimogkaaDoorPmD
import Derived.Test.YtacnhklhimogkaaDoorGrR
import Derived.Test.YtacnhklhimogkaaDoorTb
import Derived.LoopTactic
import Derived.Deep.RegionWith
import Derived.WalkKit
import Derived.WalkSpells
import Derived.WalkLawsBesides
import Derived.Handy
import Derived.Deep.QuietTactic
import Derived.BigQuiet
import Derived.Outline
import Derived.Laws.BitsAllLaws
import Derived.IntWalk
import Derived.Lib.SmallJoins
import Derived.Lib.Hide
namespace Go.Proofs.YtacnhklhimogkaaDoor
set_option linter.unusedVariables false
set_option linter.unusedSimpArgs false
open Go.RowKit

theorem Box.at_ {w : World} {n : Nat} (hn : n = w.heap.size) (c : Array Value) (t : TypeId) : Box (w.alloc (.cells c t)) n c t := by subst hn; exact Box.new w c t

theorem gcells_ext {n : Nat} {f g : Nat → Nat} (h : ∀ i, i < 5 → f i = g i) : gcells n f = gcells n g := by
  unfold gcells
  rw [h 0 (by omega), h 1 (by omega), h 2 (by omega), h 3 (by omega), h 4 (by omega)]

/-- Rows that are filled: those before p are whole, row p has what v says, the rest is empty. -/
def fillr (V : Nat → Nat) (p v : Nat) (i : Nat) : Nat := if i < p then V i else if i = p then v else 0
theorem fillr_set (V : Nat → Nat) (p u v : Nat) : (fun i => if i = p then v else fillr V p u i) = fillr V p v := by
  funext i
  unfold fillr
  by_cases h : i = p
  · subst h; simp
  · by_cases h2 : i < p
    · simp [h, h2]
    · simp [h, h2]
theorem fillr_next (V : Nat → Nat) (p : Nat) : fillr V p (V p) = fillr V (p + 1) 0 := by
  funext i
  unfold fillr
  by_cases h : i < p
  · simp [h, Nat.lt_succ_of_lt h]
  · by_cases h2 : i = p
    · subst h2; simp
    · have h3 : ¬ i < p + 1 := by omega
      by_cases h4 : i = p + 1
      · rw [if_neg h, if_neg h2, if_neg h3, if_pos h4]
      · rw [if_neg h, if_neg h2, if_neg h3, if_neg h4]
theorem fillr_at (V : Nat → Nat) (p v : Nat) : fillr V p v p = v := by simp [fillr]

set_option maxHeartbeats 1000000 in
theorem rproduct_ok (n : Nat) (a b : Nat → Nat) (ha : WF n a) (hb : WF n b) (w : World) :
    Calls Tryd.prog 55 #[gv n a, gv n b] w fun e w' => e = .returned (gv n (prod n a b)) ∧ Below w.heap.size w w' := by
  have h1 : 1 ≤ n := ha.1.1
  have h5 : n ≤ 5 := ha.1.2
  have har : ∀ p, p < n → a p < 2 ^ n := fun p hp => (ha.2.1 p hp).1
  have hbr : ∀ p, p < n → b p < 4294967296 := fun p hp => pow_small h5 (hb.2.1 p hp).1
  have Har := Lib.hid har
  have Hbr := Lib.hid hbr
  clear ha hb har hbr
  go_enter Tryd.func55, Tryd.ntmps55
  go_wp2_with fail
  obtain ⟨W, hW⟩ : ∃ W, ((((w.alloc (.cells #[.int .i64 (n : Int), .int .i64 (a 0 : Int), .int .i64 (a 1 : Int), .int .i64 (a 2 : Int), .int .i64 (a 3 : Int), .int .i64 (a 4 : Int)] 24)).alloc (.cells #[.int .i64 (n : Int), .int .i64 (b 0 : Int), .int .i64 (b 1 : Int), .int .i64 (b 2 : Int), .int .i64 (b 3 : Int), .int .i64 (b 4 : Int)] 24)).alloc (.cells #[.int .i64 0, .int .i64 0, .int .i64 0, .int .i64 0, .int .i64 0, .int .i64 0] 24)).alloc (.cells #[.int .i64 (n : Int), .int .i64 0, .int .i64 0, .int .i64 0, .int .i64 0, .int .i64 0] 24)) = W := ⟨_, rfl⟩
  rw [hW]
  have XA : Box W w.heap.size #[.int .i64 (n : Int), .int .i64 (a 0 : Int), .int .i64 (a 1 : Int), .int .i64 (a 2 : Int), .int .i64 (a 3 : Int), .int .i64 (a 4 : Int)] 24 := hW ▸ (((Box.new w _ _).alloc _).alloc _).alloc _
  have XB : Box W (w.heap.size + 1) #[.int .i64 (n : Int), .int .i64 (b 0 : Int), .int .i64 (b 1 : Int), .int .i64 (b 2 : Int), .int .i64 (b 3 : Int), .int .i64 (b 4 : Int)] 24 := hW ▸ ((Box.at_ (by simp) _ _).alloc _).alloc _
  have XZ : Box W (w.heap.size + 1 + 1) #[.int .i64 0, .int .i64 0, .int .i64 0, .int .i64 0, .int .i64 0, .int .i64 0] 24 := hW ▸ (Box.at_ (by simp) _ _).alloc _
  have XR : Box W (w.heap.size + 1 + 1 + 1) (gcells n (fillr (fun i => prow a (b i) n) 0 0)) 24 := hW ▸ Box.at_ (by simp) _ _
  have B1 : Below w.heap.size w W := hW ▸ ((((Below.refl w.heap.size w).alloc (Nat.le_refl _) _).alloc (by simp) _).alloc (by simp; omega) _).alloc (by simp; omega) _
  clear hW
  have cA : ∀ m, m < 5 → ∀ V, Below (w.heap.size + 1 + 1 + 1) W V → V.cell? ⟨w.heap.size, 1 + m, none⟩ = some (.int .i64 (a m : Int)) := fun m hm V hV => cell_row (n := n) (k := a) (fun i _ => (XA.below hV (by omega)).cell i) hm
  have cB : ∀ m, m < 5 → ∀ V, Below (w.heap.size + 1 + 1 + 1) W V → V.cell? ⟨w.heap.size + 1, 1 + m, none⟩ = some (.int .i64 (b m : Int)) := fun m hm V hV => cell_row (n := n) (k := b) (fun i _ => (XB.below hV (by omega)).cell i) hm
  have cN : ∀ V, Below (w.heap.size + 1 + 1 + 1) W V → V.cell? ⟨w.heap.size, 0, none⟩ = some (.int .i64 (n : Int)) := fun V hV => (XA.below hV (by omega)).cell 0
  have CA := Lib.hid cA
  have CB := Lib.hid cB
  have CN := Lib.hid cN
  have HXZ := Lib.hid XZ
  have HB1 := Lib.hid B1
  obtain ⟨R, hR⟩ : ∃ R, w.heap.size + 1 + 1 + 1 = R := ⟨_, rfl⟩
  have hRs : w.heap.size + 1 + 1 < R := by omega
  rw [hR] at XR CA CB CN ⊢
  have HR := Lib.hid hR
  clear XA XB XZ cA cB cN B1 hR
  go_loopw [6] (fun j wr => ∃ p : Nat, p ≤ n ∧ j = .int .i64 p ∧ Below R W wr ∧ Box wr R (gcells n (fillr (fun i => prow a (b i) n) p 0)) 24) (fun j _ => n - (intOf j).toNat)
  case atStart => exact ⟨0, by omega, rfl, Below.refl _ _, XR⟩
  case round =>
    obtain ⟨p, hp, rfl, hB, hX⟩ := hrel
    clear XR
    have hcn := CN.out wr hB
    by_cases hlt : p < n
    · have HX := Lib.hid hX
      have HB := Lib.hid hB
      clear hX hB
      go_wp2_with fail
      go_loopw [7] (fun j wr => ∃ m : Nat, m ≤ n ∧ j = .int .i64 m ∧ Below R W wr ∧ Box wr R (gcells n (fillr (fun i => prow a (b i) n) p (prow a (b p) m))) 24) (fun j _ => n - (intOf j).toNat)
      case atStart => exact ⟨0, by omega, rfl, HB.out, HX.out⟩
      case round =>
        clear HX HB hcn
        obtain ⟨m, hm, rfl, hB, hX⟩ := hrel
        have hcn := CN.out wr hB
        by_cases hml : m < n
        · have hcb := CB.out p (by omega) wr hB
          have hca := CA.out m (by omega) wr hB
          have hcr : wr.cell? ⟨R, 1 + p, none⟩ = some (.int .i64 ((prow a (b p) m : Nat) : Int)) := (hX.cell (1 + p)).trans ((gcells_get (by omega)).trans (by rw [fillr_at]))
          have hfr : wr.frozen? ⟨R, 1 + p, none⟩ = false := hX.open_ (1 + p)
          have hlR := hX.lt
          have hy := Hbr.out p hlt
          have hhas := fun w => has_any m (by omega) (b p) hy w
          by_cases hbit : b p / 2 ^ m % 2 = 1
          · have hor := prow_in h5 hml Har.out hbit
            have hst := hX.set (1 + p) (.int .i64 ((prow a (b p) (m + 1) : Nat) : Int))
            rw [gcells_set (by omega), fillr_set] at hst
            rw [decide_eq_true hbit] at hhas
            obtain ⟨y, hyy⟩ : ∃ y, b p = y := ⟨_, rfl⟩
            obtain ⟨u, huu⟩ : ∃ u, prow a y m = u := ⟨_, rfl⟩
            obtain ⟨v, hvv⟩ : ∃ v, prow a y (m + 1) = v := ⟨_, rfl⟩
            obtain ⟨x, hxx⟩ : ∃ x, a m = x := ⟨_, rfl⟩
            rw [hyy] at hcb hcr hy hhas hor hst
            rw [huu] at hcr hor
            rw [hvv] at hor hst
            rw [hxx] at hca hor
            have Hvv : Hid (prow a (b p) (m + 1) = v) := Lib.hid (by rw [hyy]; exact hvv)
            have Hst := Lib.hid hst
            have Hhas := Lib.hid hhas
            have HB := Lib.hid hB
            clear hX hB hbit hst hhas hyy huu hvv hxx
            go_wp2_with fail
            refine (Hhas.out _).mono ?_
            rintro e w' ⟨rfl, rfl⟩
            go_wp2_with fail
            go_region
            all_goals go_wp2_with fail
            all_goals exact ⟨⟨m + 1, by omega, by go_num, (HB.out.setCell (Nat.le_refl _) _).drew, by rw [Hvv.out]; exact Hst.out⟩, by simp [intOf]; omega⟩
          · have hor := prow_out (a := a) hbit
            rw [decide_eq_false hbit] at hhas
            have HX : Hid (Box wr R (gcells n (fillr (fun i => prow a (b i) n) p (prow a (b p) (m + 1)))) 24) := Lib.hid (by rw [hor]; exact hX)
            obtain ⟨y, hyy⟩ : ∃ y, b p = y := ⟨_, rfl⟩
            rw [hyy] at hcb hy hhas
            have Hhas := Lib.hid hhas
            have HB := Lib.hid hB
            clear hX hB hbit hhas hyy hor hcr
            go_wp2_with fail
            refine (Hhas.out _).mono ?_
            rintro e w' ⟨rfl, rfl⟩
            go_wp2_with fail
            exact ⟨⟨m + 1, by omega, by go_num, HB.out, HX.out⟩, by simp [intOf]; omega⟩
        · have hmn : m = n := by omega
          subst hmn
          have HX : Hid (Box wr R (gcells m (fillr (fun i => prow a (b i) m) (p + 1) 0)) 24) := Lib.hid (by rw [← fillr_next]; exact hX)
          have HB := Lib.hid hB
          clear hX hB
          go_wp2_with fail
          exact ⟨⟨p + 1, by omega, by go_num, HB.out, HX.out⟩, by simp [intOf]; omega⟩
    · have hpn : p = n := by omega
      subst hpn
      have hX2 : Box wr R (gcells p (prod p a b)) 24 := by
        rw [gcells_ext (g := fillr (fun i => prow a (b i) p) p 0) (fun i _ => by
          unfold prod fillr
          by_cases h : i < p
          · rw [if_pos h, if_pos h]
          · rw [if_neg h, if_neg h]; split <;> rfl)]
        exact hX
      clear hX
      unfold gcells at hX2
      obtain ⟨⟨q0, q1, q2, q3, q4, q5⟩, _⟩ := hX2.six
      have hlR := hX2.lt
      have hZ := HXZ.out.below hB hRs
      obtain ⟨⟨z0, z1, z2, z3, z4, z5⟩, zf0, zf1, zf2, zf3, zf4, zf5⟩ := hZ.six
      have hlZ := hZ.lt
      have B2 := HB1.out.trans (Joins.below_le hB (by omega))
      clear hX2 hZ hB HXZ HB1
      go_wp2_with fail
      refine bodyPost_ret (v := gv p (prod p a b)) (by simp [results, Tryd.results55, go_sem, z0, z1, z2, z3, z4, z5]) rfl ⟨rfl, ?_⟩
      repeat' (first | (with_reducible exact B2) | (with_reducible refine Below.setCell ?_ ?_ _) | go_size)
end Go.Proofs.YtacnhklhimogkaaDoor
