/- The walk of roundtablelaw03.GraphRoots. -/
import Derived.Test.YtlkhbfaoebgmkaaDoorMsD
import Derived.Deep.MidRow
import Derived.Deep.DeepCutAuto
import Derived.Deep.RegionHeld3
import Derived.Deep.RegionWith
import Derived.Test.YtlkhbfaoebgmkaaDoorGcB
import Derived.Test.YtlkhbfaoebgmkaaDoorGrN
import Derived.Test.YtlkhbfaoebgmkaaDoorPmA
import Derived.Test.YtlkhbfaoebgmkaaDoorPmM
import Derived.Test.YtlkhbfaoebgmkaaDoorPmD
import Derived.Test.YtlkhbfaoebgmkaaDoorGrR
import Derived.Test.YtlkhbfaoebgmkaaDoorTb
import Derived.LoopTactic
import Derived.Deep.RegionWith
import Derived.WalkKit
import Derived.WalkSpells
import Derived.WalkLawsBesides
import Derived.Handy
import Derived.Deep.QuietTactic
import Derived.BigQuiet
import Derived.Outline
import Derived.Laws.BitsAllLaws
import Derived.IntWalk
import Derived.Lib.SmallJoins
import Derived.Lib.Hide
namespace Go.Proofs.YtlkhbfaoebgmkaaDoor
set_option linter.unusedVariables false
set_option linter.unusedSimpArgs false
open Go.RowKit

abbrev c24 (N : Nat → Int) (X : Nat → Nat → Int) : Array Value := #[.int .i64 (N 0), .int .i64 (X 0 0), .int .i64 (X 0 1), .int .i64 (X 0 2), .int .i64 (X 0 3), .int .i64 (X 0 4), .int .i64 (N 1), .int .i64 (X 1 0), .int .i64 (X 1 1), .int .i64 (X 1 2), .int .i64 (X 1 3), .int .i64 (X 1 4), .int .i64 (N 2), .int .i64 (X 2 0), .int .i64 (X 2 1), .int .i64 (X 2 2), .int .i64 (X 2 3), .int .i64 (X 2 4), .int .i64 (N 3), .int .i64 (X 3 0), .int .i64 (X 3 1), .int .i64 (X 3 2), .int .i64 (X 3 3), .int .i64 (X 3 4)]
abbrev iv4 (N : Nat → Int) (X : Nat → Nat → Int) : Value := .agg (c24 N X)

theorem idx4_any (N : Nat → Int) (X : Nat → Nat → Int) (k : Nat) (hk : k < 4) (w : World) : (Instr.index 59 (iv4 N X) (.int .i64 (k : Int))).run Tryd.prog w = .ok (iv (N k) (X k)) w := by
  obtain rfl | rfl | rfl | rfl : k = 0 ∨ k = 1 ∨ k = 2 ∨ k = 3 := by omega
  all_goals kernel_rfl

theorem rangeAt_new' (w : World) (C : Array Value) (t : TypeId) : (w.alloc (.cells C t)).rangeAt w.heap.size 0 C.toList := by
  intro j v hv
  rw [Nat.zero_add]
  rw [World.cell?_alloc_mark w C t (0, 0) j]
  simpa using hv

theorem c24_at (N : Nat → Int) (X : Nat → Nat → Int) {k i : Nat} (hk : k < 4) (hi : i < 6) : (c24 N X)[k * 6 + i]? = (icells (N k) (X k))[i]? := by
  obtain rfl | rfl | rfl | rfl : k = 0 ∨ k = 1 ∨ k = 2 ∨ k = 3 := by omega
  all_goals
    obtain rfl | rfl | rfl | rfl | rfl | rfl : i = 0 ∨ i = 1 ∨ i = 2 ∨ i = 3 ∨ i = 4 ∨ i = 5 := by omega
    all_goals rfl

/-- Whether the first i graphs have roots. -/
def rtd (n : Nat) (G : Nat → Nat → Nat) (i : Nat) : Bool := decide (∀ j, j < i → ker n (rt n (G j) n) n ≠ 0)
theorem rtd_yes {n : Nat} {G : Nat → Nat → Nat} {i : Nat} (h : rtd n G i = true) (h2 : ker n (rt n (G i) n) n ≠ 0) : rtd n G (i + 1) = true := by
  have h' := of_decide_eq_true h
  exact decide_eq_true (fun j hj => by
    rcases Nat.lt_or_eq_of_le (Nat.lt_succ_iff.1 hj) with h3 | h3
    · exact h' j h3
    · rw [h3]; exact h2)
theorem rtd_no1 {n : Nat} {G : Nat → Nat → Nat} {i : Nat} (h : rtd n G i = false) : rtd n G (i + 1) = false := by
  have h' := of_decide_eq_false h
  exact decide_eq_false (fun h2 => h' (fun j hj => h2 j (by omega)))
theorem rtd_no2 {n : Nat} {G : Nat → Nat → Nat} {i : Nat} (h2 : ker n (rt n (G i) n) n = 0) : rtd n G (i + 1) = false :=
  decide_eq_false (fun h => h i (by omega) h2)

theorem below_dr {B : Nat} {w W : World} (h : Below B w W) : Below B w W.drew := below_dn 1 h

set_option maxRecDepth 100000 in
set_option maxHeartbeats 16000000 in
theorem roots_any (N : Nat → Int) (X : Nat → Nat → Int) (hr : ∀ k, k < 4 → Rng (X k)) (w : World)
    (awake_ok : ∀ w, Calls Tryd.prog 16 #[] w fun e w' => e = .returned (.bool true) ∧ Below w.heap.size w w') :
    Calls Tryd.prog 6 #[iv4 N X] w fun e w' => e = .returned (.bool true) ∧ Below w.heap.size w w' := by
  have HW := Lib.hid awake_ok
  have HC := Lib.hid (fun k (hk : k < 4) w => rcheck_code (N k) (X k) (hr k hk) w)
  have hI : (Tryd.prog.info? 59).map (·.size) = some (c24 N X).toList.length := rfl
  clear awake_ok hr
  go_enter Tryd.func6, Tryd.ntmps6
  go_wp2_with (refine wpList_load_mid rfl 59 _ rfl w.heap.size 0 rfl _ _ (rangeAt_new' w (c24 N X) _) Tryd.underlying59 rfl hI ?_)
  clear hI
  obtain ⟨W, hW⟩ : ∃ W, w.alloc (.cells (c24 N X) 59) = W := ⟨_, rfl⟩
  rw [hW]
  have XL : Box W w.heap.size (c24 N X) 59 := hW ▸ Box.new w _ _
  have B0 : Below w.heap.size w W := hW ▸ (Below.refl _ _).alloc (Nat.le_refl _) _
  clear hW
  go_loopw [26] (fun j wr => ∃ k : Nat, k ≤ 4 ∧ j = .int .i64 k ∧ Below w.heap.size w wr ∧ Box wr w.heap.size (c24 N X) 59 ∧ ∀ i, i < k → WFI (N i) (X i) ∧ N i = N 0) (fun j _ => 4 - (intOf j).toNat)
  case atStart => exact ⟨0, by omega, rfl, B0, XL, fun i hi => by omega⟩
  case round =>
    obtain ⟨k, hk, rfl, hB, hX, hall⟩ := hrel
    have HB := Lib.hid hB
    have HX := Lib.hid hX
    have Hall := Lib.hid hall
    clear hB hX hall XL B0
    by_cases hlt : k < 4
    · have hidx := fun w => idx4_any N X k hlt w
      have hc := HC.out k hlt
      obtain ⟨nk, hnk⟩ : ∃ z, N k = z := ⟨_, rfl⟩
      obtain ⟨xk, hxk⟩ : ∃ z, X k = z := ⟨_, rfl⟩
      rw [hnk, hxk] at hc hidx
      have hcs := gcode_cases nk xk
      have Hz : Hid (gcode nk xk = 0 → WFI (N k) (X k)) := Lib.hid (fun h => by rw [hnk, hxk]; exact gcode_zero h)
      have Hnk := Lib.hid hnk
      obtain ⟨c, ec⟩ : ∃ c, gcode nk xk = c := ⟨_, rfl⟩
      rw [ec] at hc hcs Hz
      have Hc := Lib.hid hc
      clear ec hnk hxk hc
      go_wp2_with fail
      refine (Hc.out _).mono ?_
      rintro e w1 ⟨rfl, hb1⟩
      have B1 := HB.out.trans (Joins.below_le (fresh_below hb1) HB.out.size)
      have X1 := (HX.out.alloc _).below hb1 (HX.out.alloc _).lt
      have z0 := fresh_cell hb1 0
      simp at z0
      have hz : wr.heap.size < w1.heap.size := by have := hb1.size; simp at this; omega
      have HB1 := Lib.hid B1
      have HX1 := Lib.hid X1
      clear hb1 B1 X1 Hc HB HX
      rcases hcs with rfl | rfl | rfl
      · by_cases hn : nk = N 0
        · subst hn
          go_wp2_with fail
          exact ⟨⟨k + 1, by omega, by go_num, HB1.out, HX1.out, fun i hi => by
            rcases Nat.lt_or_eq_of_le (Nat.lt_succ_iff.1 hi) with h | h
            · exact Hall.out i h
            · rw [h]; exact ⟨Hz.out (by first | rfl | trivial), Hnk.out⟩⟩, by simp [intOf]; omega⟩
        · have hne : (nk != N 0) = true := by simpa using hn
          clear hn
          go_wp2_with fail
          refine (HW.out _).mono ?_
          rintro e w2 ⟨rfl, hb2⟩
          go_wp2_with fail
          go_ret
          exact ⟨rfl, HB1.out.trans (Joins.below_le hb2 HB1.out.size)⟩
      · go_wp2_with fail
        refine (HW.out _).mono ?_
        rintro e w2 ⟨rfl, hb2⟩
        go_wp2_with fail
        go_ret
        exact ⟨rfl, HB1.out.trans (Joins.below_le hb2 HB1.out.size)⟩
      · go_wp2_with fail
        refine (HW.out _).mono ?_
        rintro e w2 ⟨rfl, hb2⟩
        go_wp2_with fail
        go_ret
        exact ⟨rfl, HB1.out.trans (Joins.below_le hb2 HB1.out.size)⟩
    · have hk4 : k = 4 := by omega
      subst hk4
      clear HC
      obtain ⟨n, hn⟩ : ∃ n : Nat, N 0 = (n : Int) := ⟨(N 0).toNat, by have := (Hall.out 0 (by omega)).1.1; omega⟩
      have hN : ∀ j, j < 4 → N j = (n : Int) := fun j hj => ((Hall.out j hj).2).trans hn
      obtain ⟨G, hG⟩ : ∃ G : Nat → Nat → Nat, G = fun j p => (X j p).toNat := ⟨_, rfl⟩
      have wG : ∀ j, j < 4 → WF n (G j) := fun j hj => by
        have h := (Hall.out j hj).1
        rw [hN j hj] at h
        rw [hG]; exact (wf_of' h).1
      have eX : ∀ j p, j < 4 → p < 5 → X j p = ((G j p : Nat) : Int) := fun j p hj hp => by
        have h := (Hall.out j hj).1
        rw [hN j hj] at h
        rw [hG]; exact (wf_of' h).2 p hp
      have ecells : ∀ j i, j < 4 → i < 6 → (c24 N X)[j * 6 + i]? = (gcells n (G j))[i]? := fun j i hj hi => by
        rw [c24_at N X hj hi]
        unfold icells gcells
        rw [hN j hj, eX j 0 hj (by omega), eX j 1 hj (by omega), eX j 2 hj (by omega), eX j 3 hj (by omega), eX j 4 hj (by omega)]
      have h1 : 1 ≤ n := (wG 0 (by omega)).1.1
      have h5 : n ≤ 5 := (wG 0 (by omega)).1.2
      have WG := Lib.hid wG
      have EC : Hid (∀ j i W, j < 4 → i < 6 → Box W w.heap.size (c24 N X) 59 → W.cell? ⟨w.heap.size, j * 6 + i, none⟩ = (gcells n (G j))[i]?) := Lib.hid (fun j i W hj hi hb => (hb.cell (j * 6 + i)).trans (ecells j i hj hi))
      have HS : Hid (∀ w, Calls Tryd.prog 10 #[.int .i64 (N 0)] w fun e w' => e = .returned (.tuple #[gv n (sil n), .int .i64 0]) ∧ Below w.heap.size w w') := Lib.hid (fun w => by rw [hn]; exact silent_ok n ⟨h1, h5⟩ w)
      have hn1 : 1 ≤ N 0 := by omega
      have hn5 : N 0 ≤ 5 := by omega
      have Hn := Lib.hid hn
      clear hN hG wG eX ecells Hall hn
      go_wp2_with fail
      refine (HS.out _).mono ?_
      rintro e w1 ⟨rfl, hb1⟩
      have B1 := HB.out.trans (Joins.below_le hb1 HB.out.size)
      have X1 := HX.out.below hb1 HX.out.lt
      clear hb1 HB HX HS
      go_wp2_with fail
      obtain ⟨W2, hW2⟩ : ∃ W2, (w1.alloc (.cells (gcells n (sil n)) 24)).alloc (.cells (gcells n (sil n)) 24) = W2 := ⟨_, rfl⟩
      unfold gcells at hW2
      rw [hW2]
      have P6 : Box W2 w1.heap.size (gcells n (prods n (fun _ => G 0) 0)) 24 := hW2 ▸ (Box.new w1 _ _).alloc _
      have P8 : Box W2 (w1.heap.size + 1) (gcells n (prods n G 0)) 24 := hW2 ▸ Box.at_ (by simp) _ _
      have B2 : Below w.heap.size w W2 := hW2 ▸ (B1.alloc B1.size _).alloc (by have := B1.size; simp; omega) _
      have X2 : Box W2 w.heap.size (c24 N X) 59 := hW2 ▸ (X1.alloc _).alloc _
      have hlw := X1.lt
      have HB2 := Lib.hid B2
      have HX2 := Lib.hid X2
      have HP6 := Lib.hid P6
      have HP8 := Lib.hid P8
      clear hW2 B1 X1 P6 P8 B2 X2
      obtain ⟨P, hP⟩ : ∃ P, w1.heap.size = P := ⟨_, rfl⟩
      rw [hP] at HP6 HP8 hlw ⊢
      clear hP
      go_loopw [9, 50] (fun rr j wr => ∃ i : Nat, i ≤ n - 1 ∧ j = .int .i64 i ∧ rr = .bool (rtd n G i) ∧ Below w.heap.size w wr ∧ Box wr w.heap.size (c24 N X) 59 ∧ Box wr P (gcells n (prods n (fun _ => G 0) i)) 24 ∧ Box wr (P + 1) (gcells n (prods n G i)) 24) (fun _ j _ => (n - 1) - (intOf j).toNat)
      case atStart => exact ⟨0, by omega, rfl, rfl, HB2.out, HX2.out, HP6.out, HP8.out⟩
      case round =>
        obtain ⟨i, hi, rfl, rfl, hB, hX, hP6, hP8⟩ := hrel
        clear HB2 HX2 HP6 HP8
        have hlt2 : (i : Int) < N 0 - 1 ∨ (i : Int) = N 0 - 1 := by have := Hn.out; omega
        by_cases hil : i < n - 1
        · have hin : (i : Int) < N 0 - 1 := by have := Hn.out; omega
          have hi4 : i < 4 := by omega
          have HB := Lib.hid hB
          have HX := Lib.hid hX
          have HP8 := Lib.hid hP8
          have HP6 := Lib.hid hP6
          have lL := hX.lt
          have l6 := hP6.lt
          have z : ∀ p, p < 6 → wr.cell? ⟨w.heap.size, p, none⟩ = (gcells n (G 0))[p]? := fun p hp => by have := EC.out 0 p wr (by omega) hp HX.out; rw [Nat.zero_mul, Nat.zero_add] at this; exact this
          have z0 := z 0 (by omega)
          have z1 := z 1 (by omega)
          have z2 := z 2 (by omega)
          have z3 := z 3 (by omega)
          have z4 := z 4 (by omega)
          have z5 := z 5 (by omega)
          unfold gcells at z0 z1 z2 z3 z4 z5 hP6
          simp at z0 z1 z2 z3 z4 z5
          obtain ⟨⟨y0, y1, y2, y3, y4, y5⟩, _⟩ := hP6.six
          clear hB hX hP8 hP6 z hlt2
          go_wp2_with fail
          have w0 := wf_prods ⟨h1, h5⟩ (L := fun _ => G 0) i (fun _ _ => WG.out 0 (by omega))
          refine (compose_ok n _ _ w0 (WG.out 0 (by omega)) _).mono ?_
          rintro e w3 ⟨rfl, hb3⟩
          clear w0 z0 z1 z2 z3 z4 z5 y0 y1 y2 y3 y4 y5 lL l6
          have HB3 := Lib.hid (HB.out.trans (Joins.below_le hb3 HB.out.size))
          have HX3 := Lib.hid (HX.out.below hb3 HX.out.lt)
          have H63 := Lib.hid (HP6.out.below hb3 HP6.out.lt)
          have H83 := Lib.hid (HP8.out.below hb3 HP8.out.lt)
          clear HB HX HP6 HP8 hb3
          go_wp2_with fail
          obtain ⟨v, hv⟩ : ∃ v, w3.alloc (.cells #[.int .i64 (n : Int), .int .i64 ((prod n (prods n (fun _ => G 0) i) (G 0) 0 : Nat) : Int), .int .i64 ((prod n (prods n (fun _ => G 0) i) (G 0) 1 : Nat) : Int), .int .i64 ((prod n (prods n (fun _ => G 0) i) (G 0) 2 : Nat) : Int), .int .i64 ((prod n (prods n (fun _ => G 0) i) (G 0) 3 : Nat) : Int), .int .i64 ((prod n (prods n (fun _ => G 0) i) (G 0) 4 : Nat) : Int)] 24) = v := ⟨_, rfl⟩
          rw [hv]
          have HA4 : Hid (Box v w3.heap.size (gcells n (prods n (fun _ => G 0) (i + 1))) 24) := Lib.hid (hv ▸ Box.new w3 _ _)
          have HB4 := Lib.hid (hv ▸ HB3.out.alloc HB3.out.size _ : Below w.heap.size w v)
          have HX4 := Lib.hid (hv ▸ HX3.out.alloc _ : Box v w.heap.size (c24 N X) 59)
          have H64 := Lib.hid (hv ▸ H63.out.alloc _ : Box v P (gcells n (prods n (fun _ => G 0) i)) 24)
          have H84 := Lib.hid (hv ▸ H83.out.alloc _ : Box v (P + 1) (gcells n (prods n G i)) 24)
          have l3 : P + 1 < w3.heap.size := H83.out.lt
          obtain ⟨Q, hQ⟩ : ∃ Q, w3.heap.size = Q := ⟨_, rfl⟩
          rw [hQ] at HA4 l3 ⊢
          clear hv hQ HB3 HX3 H63 H83
          go_cut [13, 14] (fun p q wx => ∃ B : Nat, p = .pointer (some ⟨B, 0, none⟩) ∧ q = .int .i64 0 ∧ v.heap.size ≤ B ∧ Below v.heap.size v wx ∧ Box wx B (gcells n (prods n G (i + 1))) 24)
          case first =>
            have HC2 : Hid (∀ w, Calls Tryd.prog 34 #[gv n (prods n G i), gv n (G i)] w fun e w' => e = .returned (.tuple #[gv n (prods n G (i + 1)), .int .i64 0]) ∧ Below w.heap.size w w') := Lib.hid (fun w => compose_ok n _ _ (wf_prods ⟨h1, h5⟩ i (fun j hj => WG.out j (by omega))) (WG.out i hi4) w)
            have lL := HX4.out.lt
            have l8 := H84.out.lt
            have ib1 : (0 : Int) ≤ (i : Int) := by omega
            have ib2 : (i : Int) < 4 := by omega
            have hy := H84.out
            have z : ∀ p, p < 6 → v.cell? ⟨w.heap.size, i * 6 + p, none⟩ = (gcells n (G i))[p]? := fun p hp => EC.out i p v hi4 hp HX4.out
            have z0 := z 0 (by omega)
            have z1 := z 1 (by omega)
            have z2 := z 2 (by omega)
            have z3 := z 3 (by omega)
            have z4 := z 4 (by omega)
            have z5 := z 5 (by omega)
            unfold gcells at z0 z1 z2 z3 z4 z5 hy
            simp at z0 z1 z2 z3 z4 z5
            obtain ⟨⟨y0, y1, y2, y3, y4, y5⟩, _⟩ := hy.six
            obtain ⟨Gi, hGi⟩ : ∃ z, G i = z := ⟨_, rfl⟩
            rw [hGi] at z1 z2 z3 z4 z5 HC2
            have Zs : ∀ V, Below v.heap.size v V → Below v.heap.size v V ∧ V.cell? ⟨P + 1, 0, none⟩ = some (.int .i64 (n : Int)) ∧ V.cell? ⟨P + 1, 1, none⟩ = some (.int .i64 ((prods n G i 0 : Nat) : Int)) ∧ V.cell? ⟨P + 1, 2, none⟩ = some (.int .i64 ((prods n G i 1 : Nat) : Int)) ∧ V.cell? ⟨P + 1, 3, none⟩ = some (.int .i64 ((prods n G i 2 : Nat) : Int)) ∧ V.cell? ⟨P + 1, 4, none⟩ = some (.int .i64 ((prods n G i 3 : Nat) : Int)) ∧ V.cell? ⟨P + 1, 5, none⟩ = some (.int .i64 ((prods n G i 4 : Nat) : Int)) ∧ V.cell? ⟨w.heap.size, i * 6, none⟩ = some (.int .i64 (n : Int)) ∧ V.cell? ⟨w.heap.size, i * 6 + 1, none⟩ = some (.int .i64 ((Gi 0 : Nat) : Int)) ∧ V.cell? ⟨w.heap.size, i * 6 + 2, none⟩ = some (.int .i64 ((Gi 1 : Nat) : Int)) ∧ V.cell? ⟨w.heap.size, i * 6 + 3, none⟩ = some (.int .i64 ((Gi 2 : Nat) : Int)) ∧ V.cell? ⟨w.heap.size, i * 6 + 4, none⟩ = some (.int .i64 ((Gi 3 : Nat) : Int)) ∧ V.cell? ⟨w.heap.size, i * 6 + 5, none⟩ = some (.int .i64 ((Gi 4 : Nat) : Int)) := fun V hV => ⟨hV, (hV.cell (p := ⟨P + 1, 0, none⟩) l8).trans y0, (hV.cell (p := ⟨P + 1, 1, none⟩) l8).trans y1, (hV.cell (p := ⟨P + 1, 2, none⟩) l8).trans y2, (hV.cell (p := ⟨P + 1, 3, none⟩) l8).trans y3, (hV.cell (p := ⟨P + 1, 4, none⟩) l8).trans y4, (hV.cell (p := ⟨P + 1, 5, none⟩) l8).trans y5, (hV.cell (p := ⟨w.heap.size, i * 6, none⟩) lL).trans z0, (hV.cell (p := ⟨w.heap.size, i * 6 + 1, none⟩) lL).trans z1, (hV.cell (p := ⟨w.heap.size, i * 6 + 2, none⟩) lL).trans z2, (hV.cell (p := ⟨w.heap.size, i * 6 + 3, none⟩) lL).trans z3, (hV.cell (p := ⟨w.heap.size, i * 6 + 4, none⟩) lL).trans z4, (hV.cell (p := ⟨w.heap.size, i * 6 + 5, none⟩) lL).trans z5⟩
            have HZ := Lib.hid Zs
            clear Zs hy z hGi HA4 HB4 HX4 H64 H84
            go_region_held3 (fun V => Below v.heap.size v V ∧ V.cell? ⟨P + 1, 0, none⟩ = some (.int .i64 (n : Int)) ∧ V.cell? ⟨P + 1, 1, none⟩ = some (.int .i64 ((prods n G i 0 : Nat) : Int)) ∧ V.cell? ⟨P + 1, 2, none⟩ = some (.int .i64 ((prods n G i 1 : Nat) : Int)) ∧ V.cell? ⟨P + 1, 3, none⟩ = some (.int .i64 ((prods n G i 2 : Nat) : Int)) ∧ V.cell? ⟨P + 1, 4, none⟩ = some (.int .i64 ((prods n G i 3 : Nat) : Int)) ∧ V.cell? ⟨P + 1, 5, none⟩ = some (.int .i64 ((prods n G i 4 : Nat) : Int)) ∧ V.cell? ⟨w.heap.size, i * 6, none⟩ = some (.int .i64 (n : Int)) ∧ V.cell? ⟨w.heap.size, i * 6 + 1, none⟩ = some (.int .i64 ((Gi 0 : Nat) : Int)) ∧ V.cell? ⟨w.heap.size, i * 6 + 2, none⟩ = some (.int .i64 ((Gi 1 : Nat) : Int)) ∧ V.cell? ⟨w.heap.size, i * 6 + 3, none⟩ = some (.int .i64 ((Gi 2 : Nat) : Int)) ∧ V.cell? ⟨w.heap.size, i * 6 + 4, none⟩ = some (.int .i64 ((Gi 3 : Nat) : Int)) ∧ V.cell? ⟨w.heap.size, i * 6 + 5, none⟩ = some (.int .i64 ((Gi 4 : Nat) : Int))) ((refine HZ.out _ ?_; repeat' (first | assumption | exact And.left (by assumption) | (with_reducible refine below_dr ?_) | (with_reducible refine Below.setCell ?_ ?_ _) | (with_reducible refine Below.alloc ?_ ?_ _) | exact Below.refl _ _ | exact Nat.le_refl _ | exact Below.size (by assumption) | go_size))) (first | (go_at_call 34; refine (HC2.out _).mono ?_; rintro e w4 ⟨rfl, hb4⟩; have kk : Below v.heap.size v w4 := Below.trans (by first | assumption | exact And.left (by assumption)) (Joins.below_le hb4 (Below.size (by first | assumption | exact And.left (by assumption)))); first | (have bx : Box w4 v.heap.size #[.int .i64 0, .int .i64 0, .int .i64 0, .int .i64 0, .int .i64 0, .int .i64 0] 24 := (Box.new v.drew #[.int .i64 0, .int .i64 0, .int .i64 0, .int .i64 0, .int .i64 0, .int .i64 0] 24).below hb4 (by simp); obtain ⟨⟨q0, q1, q2, q3, q4, q5⟩, f0, f1, f2, f3, f4, f5⟩ := bx.six; have lq := bx.lt) | skip))
            all_goals
              go_wp2_with fail
              go_meet
              refine ⟨_, rfl, rfl, ?_, ?_, ?_⟩
              · first | exact Nat.le_refl _ | exact Below.size kk
              · repeat' (first | (with_reducible exact kk) | (with_reducible refine Below.setCell ?_ ?_ _) | (with_reducible refine Below.alloc ?_ ?_ _) | exact Nat.le_refl _ | exact Below.size kk | go_size)
              · unfold gcells
                first | exact bx.put6 _ _ _ _ _ _ | exact Box.at_ rfl _ _
          case rest =>
            obtain ⟨B, rfl, rfl, hvB, hb, hBx⟩ := hcut
            have lQ := HA4.out.lt
            have p1 : P < B := by omega
            have p2 : P + 1 < B := by omega
            have p3 : P < Q := by omega
            have p4 : P + 1 < Q := by omega
            have p5 : Q < B := by omega
            have n1 : ¬ B = P := by omega
            have n2 : ¬ B = P + 1 := by omega
            have n3 : ¬ Q = P := by omega
            have n4 : ¬ Q = P + 1 := by omega
            clear lQ hvB
            have HB5 := Lib.hid (HB4.out.trans (Joins.below_le hb HB4.out.size))
            have HX5 := Lib.hid (HX4.out.below hb HX4.out.lt)
            have HA5 := Lib.hid (HA4.out.below hb HA4.out.lt)
            have H65 := Lib.hid (H64.out.below hb H64.out.lt)
            have H85 := Lib.hid (H84.out.below hb H84.out.lt)
            have HBx := Lib.hid hBx
            obtain ⟨v2, rfl⟩ : ∃ v2 : World, v2 = wc := ⟨_, rfl⟩
            clear hb hBx HB4 HX4 HA4 H64 H84
            have lL := HX5.out.lt
            have z : ∀ p, p < 6 → v2.cell? ⟨w.heap.size, i * 6 + p, none⟩ = (gcells n (G i))[p]? := fun p hp => EC.out i p v2 hi4 hp HX5.out
            have z0 := z 0 (by omega)
            have z1 := z 1 (by omega)
            have z2 := z 2 (by omega)
            have z3 := z 3 (by omega)
            have z4 := z 4 (by omega)
            have z5 := z 5 (by omega)
            unfold gcells at z0 z1 z2 z3 z4 z5
            simp at z0 z1 z2 z3 z4 z5
            clear z
            go_wp2_with fail
            have wi := WG.out i hi4
            refine (roots_ok n (G i) wi (rng_of'' wi) _).mono ?_
            rintro e v3 ⟨rfl, hb⟩
            have HB6 := Lib.hid (HB5.out.trans (Joins.below_le hb HB5.out.size))
            have HX6 := Lib.hid (HX5.out.below hb HX5.out.lt)
            have HA6 := Lib.hid (HA5.out.below hb HA5.out.lt)
            have H66 := Lib.hid (H65.out.below hb H65.out.lt)
            have H86 := Lib.hid (H85.out.below hb H85.out.lt)
            have HBy := Lib.hid (HBx.out.below hb HBx.out.lt)
            clear hb HB5 HX5 HA5 H65 H85 HBx wi z0 z1 z2 z3 z4 z5 lL
            have Hyes : Hid (rtd n G i = true → ker n (rt n (G i) n) n ≠ 0 → rtd n G (i + 1) = true) := Lib.hid rtd_yes
            have Hno1 : Hid (rtd n G i = false → rtd n G (i + 1) = false) := Lib.hid rtd_no1
            have Hno2 : Hid (ker n (rt n (G i) n) n = 0 → rtd n G (i + 1) = false) := Lib.hid rtd_no2
            obtain ⟨r, hr⟩ : ∃ r, ker n (rt n (G i) n) n = r := ⟨_, rfl⟩
            obtain ⟨t, ht⟩ : ∃ t, rtd n G i = t := ⟨_, rfl⟩
            obtain ⟨t', ht'⟩ : ∃ t, rtd n G (i + 1) = t := ⟨_, rfl⟩
            rw [hr] at Hyes Hno2 ⊢
            rw [ht] at Hyes Hno1 ⊢
            rw [ht'] at Hyes Hno1 Hno2
            have Ht := Lib.hid ht'
            clear hr ht ht'
            have b6 := H66.out
            have b8 := H86.out
            have bA := HA6.out
            have bB := HBy.out
            unfold gcells at b6 b8 bA bB
            obtain ⟨_, g0, g1, g2, g3, g4, g5⟩ := b6.six
            obtain ⟨⟨d0, d1, d2, d3, d4, d5⟩, h0', h1', h2', h3', h4', h5'⟩ := b8.six
            obtain ⟨⟨i0, i1, i2, i3, i4, i5⟩, _⟩ := bA.six
            obtain ⟨⟨j0, j1, j2, j3, j4, j5⟩, _⟩ := bB.six
            obtain ⟨⟨k0, k1, k2, k3, k4, k5⟩, _⟩ := b6.six
            have l6 := b6.lt
            have l8 := b8.lt
            have lA := bA.lt
            have lB := bB.lt
            have F6 : Hid (∀ V c0 c1 c2 c3 c4 c5, Box V P #[c0, c1, c2, c3, c4, c5] 24 → Box (put6 V P (.int .i64 (n : Int)) (.int .i64 ((prods n (fun _ => G 0) (i + 1) 0 : Nat) : Int)) (.int .i64 ((prods n (fun _ => G 0) (i + 1) 1 : Nat) : Int)) (.int .i64 ((prods n (fun _ => G 0) (i + 1) 2 : Nat) : Int)) (.int .i64 ((prods n (fun _ => G 0) (i + 1) 3 : Nat) : Int)) (.int .i64 ((prods n (fun _ => G 0) (i + 1) 4 : Nat) : Int))) P (gcells n (prods n (fun _ => G 0) (i + 1))) 24) := Lib.hid (fun V c0 c1 c2 c3 c4 c5 h => h.put6 _ _ _ _ _ _)
            have B6 := Lib.hid b6
            have B8 := Lib.hid b8
            clear b6 b8 bA bB HA6 H66 H86 HBy
            have fin : ∀ t2 : Bool, t2 = t' → t2 = t' := fun _ h => h
            cases t with
            | false =>
              have e' : t' = false := Hno1.out rfl
              subst e'
              clear Hyes Hno1 Hno2 fin
              go_wp2_with fail
              go_region
              all_goals
                go_wp2_with fail
                refine ⟨⟨i + 1, by omega, by go_num, by rw [Ht.out], ?_, ?_, ?_, ?_⟩, by simp [intOf]; omega⟩
                · have hb6 := HB6.out
                  repeat' (first | (with_reducible exact hb6) | (with_reducible refine below_dr ?_) | (with_reducible refine Below.setCell ?_ ?_ _) | omega | go_size)
                · exact Box.drew ((HX6.out.put6Other (by omega) _ _ _ _ _ _).put6Other (by omega) _ _ _ _ _ _)
                · first | exact Box.drew ((B6.out.put6 _ _ _ _ _ _).put6Other (by omega) _ _ _ _ _ _) | exact Box.drew ((B6.out.put6Other (by omega) _ _ _ _ _ _).put6 _ _ _ _ _ _)
                · first | exact Box.drew ((B8.out.put6Other (by omega) _ _ _ _ _ _).put6 _ _ _ _ _ _) | exact Box.drew ((B8.out.put6 _ _ _ _ _ _).put6Other (by omega) _ _ _ _ _ _)
            | true =>
              by_cases hr0 : r = 0
              · have e' : t' = false := Hno2.out hr0
                subst e' hr0
                clear Hyes Hno1 Hno2 fin
                go_wp2_with fail
                go_region
                all_goals
                  go_wp2_with fail
                  refine ⟨⟨i + 1, by omega, by go_num, by rw [Ht.out], ?_, ?_, ?_, ?_⟩, by simp [intOf]; omega⟩
                  · have hb6 := HB6.out
                    repeat' (first | (with_reducible exact hb6) | (with_reducible refine below_dr ?_) | (with_reducible refine Below.setCell ?_ ?_ _) | omega | go_size)
                  · exact Box.drew ((HX6.out.put6Other (by omega) _ _ _ _ _ _).put6Other (by omega) _ _ _ _ _ _)
                  · first | exact Box.drew ((B6.out.put6 _ _ _ _ _ _).put6Other (by omega) _ _ _ _ _ _) | exact Box.drew ((B6.out.put6Other (by omega) _ _ _ _ _ _).put6 _ _ _ _ _ _)
                  · first | exact Box.drew ((B8.out.put6Other (by omega) _ _ _ _ _ _).put6 _ _ _ _ _ _) | exact Box.drew ((B8.out.put6 _ _ _ _ _ _).put6Other (by omega) _ _ _ _ _ _)
              · have e' : t' = true := Hyes.out rfl hr0
                have hne : ((r : Int) != 0) = true := by rw [bne_iff_ne]; omega
                subst e'
                clear Hyes Hno1 Hno2 fin hr0
                go_wp2_with fail
                go_region
                all_goals
                  go_wp2_with fail
                  refine ⟨⟨i + 1, by omega, by go_num, by rw [Ht.out], ?_, ?_, ?_, ?_⟩, by simp [intOf]; omega⟩
                  · have hb6 := HB6.out
                    repeat' (first | (with_reducible exact hb6) | (with_reducible refine below_dr ?_) | (with_reducible refine Below.setCell ?_ ?_ _) | omega | go_size)
                  · exact Box.drew ((HX6.out.put6Other (by omega) _ _ _ _ _ _).put6Other (by omega) _ _ _ _ _ _)
                  · first | exact Box.drew ((B6.out.put6 _ _ _ _ _ _).put6Other (by omega) _ _ _ _ _ _) | exact Box.drew ((B6.out.put6Other (by omega) _ _ _ _ _ _).put6 _ _ _ _ _ _)
                  · first | exact Box.drew ((B8.out.put6Other (by omega) _ _ _ _ _ _).put6 _ _ _ _ _ _) | exact Box.drew ((B8.out.put6 _ _ _ _ _ _).put6Other (by omega) _ _ _ _ _ _)
        · have hin : (i : Int) = N 0 - 1 := by have := Hn.out; omega
          have hie : i = n - 1 := by omega
          subst hie
          have HB := Lib.hid hB
          have HX := Lib.hid hX
          have HP8 := Lib.hid hP8
          have HP6 := Lib.hid hP6
          have lL := hX.lt
          have z : ∀ p, p < 6 → wr.cell? ⟨w.heap.size, p, none⟩ = (gcells n (G 0))[p]? := fun p hp => by have := EC.out 0 p wr (by omega) hp HX.out; rw [Nat.zero_mul, Nat.zero_add] at this; exact this
          have z0 := z 0 (by omega)
          have z1 := z 1 (by omega)
          have z2 := z 2 (by omega)
          have z3 := z 3 (by omega)
          have z4 := z 4 (by omega)
          have z5 := z 5 (by omega)
          unfold gcells at z0 z1 z2 z3 z4 z5
          simp at z0 z1 z2 z3 z4 z5
          clear hB hX hP8 hP6 z hlt2
          have wg := WG.out 0 (by omega)
          have wp := wf_prods ⟨h1, h5⟩ (L := fun _ => G 0) (n - 1) (fun _ _ => wg)
          have wq := wf_prods ⟨h1, h5⟩ (L := G) (n - 1) (fun j hj => WG.out j (by omega))
          have Hr0 := Lib.hid (fun w => roots_ok n (G 0) wg (rng_of'' wg) w)
          have Hk0 := Lib.hid (fun w => Kernel_ok n _ wp w)
          have Hs0 := Lib.hid (fun w => nonsplit_ok n _ wq (rng_of'' wq) w)
          rw [roots_kernel wg] at Hr0
          have Hfin : Hid (rtd n G (n - 1) = true → nsp n (prods n G (n - 1)) = true) := Lib.hid (fun h => by
            have h' := of_decide_eq_true h
            exact decide_eq_true (fun p hp q hq => nonsplit ⟨h1, h5⟩ (fun j hj => ⟨WG.out j (by omega), h' j hj⟩) hp (by omega)))
          obtain ⟨K, hK⟩ : ∃ K, ker n (prods n (fun _ => G 0) (n - 1)) n = K := ⟨_, rfl⟩
          obtain ⟨u, hu⟩ : ∃ u, nsp n (prods n G (n - 1)) = u := ⟨_, rfl⟩
          obtain ⟨t, ht⟩ : ∃ t, rtd n G (n - 1) = t := ⟨_, rfl⟩
          rw [hK] at Hr0 Hk0
          rw [hu] at Hs0 Hfin
          rw [ht] at Hfin ⊢
          clear hK hu ht wg wp wq
          go_wp2_with fail
          refine (Hr0.out _).mono ?_
          rintro e w3 ⟨rfl, hb⟩
          have C3 := Lib.hid (HB.out.trans (Joins.below_le hb HB.out.size))
          have C6 := Lib.hid (HP6.out.below hb HP6.out.lt)
          have C8 := Lib.hid (HP8.out.below hb HP8.out.lt)
          clear hb HB HP6 HP8 HX z0 z1 z2 z3 z4 z5 lL
          have b6 := C6.out
          unfold gcells at b6
          obtain ⟨⟨y0, y1, y2, y3, y4, y5⟩, _⟩ := b6.six
          have l6 := b6.lt
          clear b6
          go_wp2_with fail
          refine (Hk0.out _).mono ?_
          rintro e w4 ⟨rfl, hb⟩
          have C4 := Lib.hid (C3.out.trans (Joins.below_le hb C3.out.size))
          have D8 := Lib.hid (C8.out.below hb C8.out.lt)
          clear hb C3 C6 C8 y0 y1 y2 y3 y4 y5 l6
          have b8 := D8.out
          unfold gcells at b8
          obtain ⟨⟨y0, y1, y2, y3, y4, y5⟩, _⟩ := b8.six
          have l8 := b8.lt
          clear b8
          go_wp2_with fail
          refine (Hs0.out _).mono ?_
          rintro e w5 ⟨rfl, hb⟩
          have C5 := Lib.hid (C4.out.trans (Joins.below_le hb C4.out.size))
          clear hb C4 D8 y0 y1 y2 y3 y4 y5 l8
          cases t with
          | false =>
            go_wp2_with fail
            refine (HW.out _).mono ?_
            rintro e w6 ⟨rfl, hb⟩
            go_wp2_with fail
            go_ret
            exact ⟨rfl, C5.out.trans (Joins.below_le hb C5.out.size)⟩
          | true =>
            have hu : u = true := Hfin.out rfl
            subst hu
            go_wp2_with fail
            refine (HW.out _).mono ?_
            rintro e w6 ⟨rfl, hb⟩
            go_wp2_with fail
            go_ret
            exact ⟨rfl, C5.out.trans (Joins.below_le hb C5.out.size)⟩
end Go.Proofs.YtlkhbfaoebgmkaaDoor
