/- Renaming a graph by a list of integers: what the package and the specification answer. -/
import Derived.Test.YtmhfhdfiepniaaaDoorGcE
import Derived.Test.YtmhfhdfiepniaaaDoorPcB
import Derived.Test.YtmhfhdfiepniaaaDoorGcB
import Derived.Test.YtmhfhdfiepniaaaDoorGrN
import Derived.Test.YtmhfhdfiepniaaaDoorPmA
import Derived.Test.YtmhfhdfiepniaaaDoorPmM
import Derived.Test.YtmhfhdfiepniaaaDoorPmD
import Derived.Test.YtmhfhdfiepniaaaDoorGrR
import Derived.Test.YtmhfhdfiepniaaaDoorTb
import Derived.LoopTactic
import Derived.Deep.RegionWith
import Derived.WalkKit
import Derived.WalkSpells
import Derived.WalkLawsBesides
import Derived.Handy
import Derived.Deep.QuietTactic
import Derived.BigQuiet
import Derived.Outline
import Derived.Laws.BitsAllLaws
import Derived.IntWalk
import Derived.Lib.SmallJoins
import Derived.Lib.Hide
namespace Go.Proofs.YtmhfhdfiepniaaaDoor
set_option linter.unusedVariables false
set_option linter.unusedSimpArgs false
open Go.RowKit

theorem undrewN {B : Nat} {w : World} {d : Nat} : Below B w (w.drewN d) := below_dn d (Below.refl _ _)

set_option maxHeartbeats 1000000 in
theorem permute_bad1 (n : Int) (a : Nat → Int) (ra : Rng a) (A : Option Addr) (len cap : Nat) (h : gcode n a ≠ 0) (w : World) :
    Calls Tryd.prog 14 #[iv n a, .slice A len cap] w fun e w' => e = .returned (.tuple #[zg, .int .i64 (gcode n a)]) ∧ Below w.heap.size w w' := by
  have Hc := Lib.hid (fun w => gcheck_code n a ra w)
  have hc := gcode_cases n a
  obtain ⟨c, ec⟩ : ∃ c, gcode n a = c := ⟨_, rfl⟩
  rw [ec] at Hc hc h ⊢
  clear ec ra
  go_enter Tryd.func14, Tryd.ntmps14
  go_wp2_with fail
  refine (Hc.out _).mono ?_
  rintro e w1 ⟨rfl, hb1⟩
  have YA : Box w1 w.heap.size #[.int .i64 n, .int .i64 (a 0), .int .i64 (a 1), .int .i64 (a 2), .int .i64 (a 3), .int .i64 (a 4)] 24 := ((Box.new w _ _).alloc _).below hb1 (by simp; omega)
  have YZ : Box w1 (w.heap.size + 1) #[.int .i64 0, .int .i64 0, .int .i64 0, .int .i64 0, .int .i64 0, .int .i64 0] 24 := (Box.at_ (by simp) _ _).below hb1 (by simp)
  have B1 : Below w.heap.size w w1 := (((Below.refl w.heap.size w).alloc (Nat.le_refl _) _).alloc (by simp) _).trans (Joins.below_le hb1 (by simp; omega))
  clear hb1
  obtain ⟨⟨z0, z1, z2, z3, z4, z5⟩, zf0, zf1, zf2, zf3, zf4, zf5⟩ := YZ.six
  have hlZ := YZ.lt
  obtain ⟨⟨y0, _, _, _, _, _⟩, _⟩ := YA.six
  have hlA := YA.lt
  clear YA YZ
  clear Hc
  rcases hc with rfl | rfl | rfl
  · exact absurd rfl h
  · clear h
    go_wp2_with fail
    refine bodyPost_ret (v := .tuple #[zg, .int .i64 2]) (by simp [results, Tryd.results14, go_sem, z0, z1, z2, z3, z4, z5]) rfl ⟨rfl, ?_⟩
    repeat' (first | (with_reducible exact B1) | (with_reducible refine Below.setCell ?_ ?_ _) | go_size)
  · clear h
    go_wp2_with fail
    refine bodyPost_ret (v := .tuple #[zg, .int .i64 3]) (by simp [results, Tryd.results14, go_sem, z0, z1, z2, z3, z4, z5]) rfl ⟨rfl, ?_⟩
    repeat' (first | (with_reducible exact B1) | (with_reducible refine Below.setCell ?_ ?_ _) | go_size)

set_option maxHeartbeats 1000000 in
theorem permute_bad2 (n : Int) (a : Nat → Int) (ra : Rng a) (A : Option Addr) (len cap : Nat) (x : Nat → Int) (h0 : gcode n a = 0) (h : pcode len x ≠ 0) (w : World) (hA : IsInts w A len cap x) :
    Calls Tryd.prog 14 #[iv n a, .slice A len cap] w fun e w' => e = .returned (.tuple #[zg, .int .i64 (pcode len x)]) ∧ Below w.heap.size w w' := by
  have Hc := Lib.hid (fun w => gcheck_code n a ra w)
  rw [h0] at Hc
  have Hp := Lib.hid (fun w hA => pchk_code len cap A x w hA)
  have hc := pcode_cases len x
  have HA := Lib.hid hA
  obtain ⟨c, ec⟩ : ∃ c, pcode len x = c := ⟨_, rfl⟩
  rw [ec] at Hp hc h ⊢
  clear ec ra h0 hA
  go_enter Tryd.func14, Tryd.ntmps14
  go_wp2_with fail
  refine (Hc.out _).mono ?_
  rintro e w1 ⟨rfl, hb1⟩
  have YA : Box w1 w.heap.size #[.int .i64 n, .int .i64 (a 0), .int .i64 (a 1), .int .i64 (a 2), .int .i64 (a 3), .int .i64 (a 4)] 24 := ((Box.new w _ _).alloc _).below hb1 (by simp; omega)
  have YZ : Box w1 (w.heap.size + 1) #[.int .i64 0, .int .i64 0, .int .i64 0, .int .i64 0, .int .i64 0, .int .i64 0] 24 := (Box.at_ (by simp) _ _).below hb1 (by simp)
  have B1 : Below w.heap.size w w1 := (((Below.refl w.heap.size w).alloc (Nat.le_refl _) _).alloc (by simp) _).trans (Joins.below_le hb1 (by simp; omega))
  clear hb1
  clear Hc
  go_wp2_with fail
  refine (Hp.out _ (HA.out.below B1)).mono ?_
  rintro e w' ⟨rfl, rfl⟩
  obtain ⟨⟨z0, z1, z2, z3, z4, z5⟩, zf0, zf1, zf2, zf3, zf4, zf5⟩ := YZ.six
  have hlZ := YZ.lt
  obtain ⟨⟨y0, _, _, _, _, _⟩, _⟩ := YA.six
  have hlA := YA.lt
  clear YA YZ
  clear Hp
  rcases hc with rfl | rfl | rfl
  · exact absurd rfl h
  · clear h
    go_wp2_with fail
    refine bodyPost_ret (v := .tuple #[zg, .int .i64 2]) (by simp [results, Tryd.results14, go_sem, z0, z1, z2, z3, z4, z5]) rfl ⟨rfl, ?_⟩
    repeat' (first | (with_reducible exact B1) | (with_reducible refine Below.setCell ?_ ?_ _) | go_size)
  · clear h
    go_wp2_with fail
    refine bodyPost_ret (v := .tuple #[zg, .int .i64 7]) (by simp [results, Tryd.results14, go_sem, z0, z1, z2, z3, z4, z5]) rfl ⟨rfl, ?_⟩
    repeat' (first | (with_reducible exact B1) | (with_reducible refine Below.setCell ?_ ?_ _) | go_size)

set_option maxHeartbeats 1000000 in
theorem permute_bad3 (n : Int) (a : Nat → Int) (ra : Rng a) (A : Option Addr) (len cap : Nat) (x : Nat → Int) (h0 : gcode n a = 0) (h : pcode len x = 0) (hn : (len : Int) ≠ n) (hl : len ≤ 5) (w : World) (hA : IsInts w A len cap x) :
    Calls Tryd.prog 14 #[iv n a, .slice A len cap] w fun e w' => e = .returned (.tuple #[zg, .int .i64 22]) ∧ Below w.heap.size w w' := by
  have Hc := Lib.hid (fun w => gcheck_code n a ra w)
  rw [h0] at Hc
  have Hp := Lib.hid (fun w hA => pchk_code len cap A x w hA)
  rw [h] at Hp
  have HA := Lib.hid hA
  have hne : ((len : Int) != n) = true := by simpa using hn
  clear ra h0 hA h
  go_enter Tryd.func14, Tryd.ntmps14
  go_wp2_with fail
  refine (Hc.out _).mono ?_
  rintro e w1 ⟨rfl, hb1⟩
  have YA : Box w1 w.heap.size #[.int .i64 n, .int .i64 (a 0), .int .i64 (a 1), .int .i64 (a 2), .int .i64 (a 3), .int .i64 (a 4)] 24 := ((Box.new w _ _).alloc _).below hb1 (by simp; omega)
  have YZ : Box w1 (w.heap.size + 1) #[.int .i64 0, .int .i64 0, .int .i64 0, .int .i64 0, .int .i64 0, .int .i64 0] 24 := (Box.at_ (by simp) _ _).below hb1 (by simp)
  have B1 : Below w.heap.size w w1 := (((Below.refl w.heap.size w).alloc (Nat.le_refl _) _).alloc (by simp) _).trans (Joins.below_le hb1 (by simp; omega))
  clear hb1
  clear Hc
  go_wp2_with fail
  refine (Hp.out _ (HA.out.below B1)).mono ?_
  rintro e w' ⟨rfl, rfl⟩
  obtain ⟨⟨z0, z1, z2, z3, z4, z5⟩, zf0, zf1, zf2, zf3, zf4, zf5⟩ := YZ.six
  have hlZ := YZ.lt
  obtain ⟨⟨y0, _, _, _, _, _⟩, _⟩ := YA.six
  have hlA := YA.lt
  clear YA YZ
  clear Hp
  go_wp2_with fail
  refine bodyPost_ret (v := .tuple #[zg, .int .i64 22]) (by simp [results, Tryd.results14, go_sem, z0, z1, z2, z3, z4, z5]) rfl ⟨rfl, ?_⟩
  repeat' (first | (with_reducible exact B1) | (with_reducible refine Below.setCell ?_ ?_ _) | go_size)

set_option maxHeartbeats 1000000 in
theorem rpermute_bad1 (n : Int) (a : Nat → Int) (ra : Rng a) (A : Option Addr) (len cap : Nat) (h : gcode n a ≠ 0) (w : World) :
    Calls Tryd.prog 15 #[iv n a, .slice A len cap] w fun e w' => e = .returned (.tuple #[zg, .int .i64 (gcode n a)]) ∧ Below w.heap.size w w' := by
  have Hc := Lib.hid (fun w => rcheck_code n a ra w)
  have hc := gcode_cases n a
  obtain ⟨c, ec⟩ : ∃ c, gcode n a = c := ⟨_, rfl⟩
  rw [ec] at Hc hc h ⊢
  clear ec ra
  go_enter Tryd.func15, Tryd.ntmps15
  go_wp2_with fail
  refine (Hc.out _).mono ?_
  rintro e w1 ⟨rfl, hb1⟩
  have YA : Box w1 w.heap.size #[.int .i64 n, .int .i64 (a 0), .int .i64 (a 1), .int .i64 (a 2), .int .i64 (a 3), .int .i64 (a 4)] 24 := ((Box.new w _ _).alloc _).below hb1 (by simp; omega)
  have YZ : Box w1 (w.heap.size + 1) #[.int .i64 0, .int .i64 0, .int .i64 0, .int .i64 0, .int .i64 0, .int .i64 0] 24 := (Box.at_ (by simp) _ _).below hb1 (by simp)
  have B1 : Below w.heap.size w w1 := (((Below.refl w.heap.size w).alloc (Nat.le_refl _) _).alloc (by simp) _).trans (Joins.below_le hb1 (by simp; omega))
  clear hb1
  obtain ⟨⟨z0, z1, z2, z3, z4, z5⟩, zf0, zf1, zf2, zf3, zf4, zf5⟩ := YZ.six
  have hlZ := YZ.lt
  obtain ⟨⟨y0, _, _, _, _, _⟩, _⟩ := YA.six
  have hlA := YA.lt
  clear YA YZ
  clear Hc
  rcases hc with rfl | rfl | rfl
  · exact absurd rfl h
  · clear h
    go_wp2_with fail
    refine bodyPost_ret (v := .tuple #[zg, .int .i64 2]) (by simp [results, Tryd.results15, go_sem, z0, z1, z2, z3, z4, z5]) rfl ⟨rfl, ?_⟩
    repeat' (first | (with_reducible exact B1) | (with_reducible refine Below.setCell ?_ ?_ _) | go_size)
  · clear h
    go_wp2_with fail
    refine bodyPost_ret (v := .tuple #[zg, .int .i64 3]) (by simp [results, Tryd.results15, go_sem, z0, z1, z2, z3, z4, z5]) rfl ⟨rfl, ?_⟩
    repeat' (first | (with_reducible exact B1) | (with_reducible refine Below.setCell ?_ ?_ _) | go_size)

set_option maxHeartbeats 1000000 in
theorem rpermute_bad2 (n : Int) (a : Nat → Int) (ra : Rng a) (A : Option Addr) (len cap : Nat) (x : Nat → Int) (h0 : gcode n a = 0) (h : pcode len x ≠ 0) (w : World) (hA : IsInts w A len cap x) :
    Calls Tryd.prog 15 #[iv n a, .slice A len cap] w fun e w' => e = .returned (.tuple #[zg, .int .i64 (pcode len x)]) ∧ Below w.heap.size w w' := by
  have Hc := Lib.hid (fun w => rcheck_code n a ra w)
  rw [h0] at Hc
  have Hp := Lib.hid (fun w hA => rpc_code len cap A x w hA)
  have hc := pcode_cases len x
  have HA := Lib.hid hA
  obtain ⟨c, ec⟩ : ∃ c, pcode len x = c := ⟨_, rfl⟩
  rw [ec] at Hp hc h ⊢
  clear ec ra h0 hA
  go_enter Tryd.func15, Tryd.ntmps15
  go_wp2_with fail
  refine (Hc.out _).mono ?_
  rintro e w1 ⟨rfl, hb1⟩
  have YA : Box w1 w.heap.size #[.int .i64 n, .int .i64 (a 0), .int .i64 (a 1), .int .i64 (a 2), .int .i64 (a 3), .int .i64 (a 4)] 24 := ((Box.new w _ _).alloc _).below hb1 (by simp; omega)
  have YZ : Box w1 (w.heap.size + 1) #[.int .i64 0, .int .i64 0, .int .i64 0, .int .i64 0, .int .i64 0, .int .i64 0] 24 := (Box.at_ (by simp) _ _).below hb1 (by simp)
  have B1 : Below w.heap.size w w1 := (((Below.refl w.heap.size w).alloc (Nat.le_refl _) _).alloc (by simp) _).trans (Joins.below_le hb1 (by simp; omega))
  clear hb1
  clear Hc
  go_wp2_with fail
  refine (Hp.out _ (HA.out.below B1)).mono ?_
  rintro e w' ⟨rfl, d, rfl⟩
  have B2 : Below w.heap.size w (w1.drewN d) := below_dn d B1
  obtain ⟨⟨z0, z1, z2, z3, z4, z5⟩, zf0, zf1, zf2, zf3, zf4, zf5⟩ := YZ.six
  have hlZ := YZ.lt
  obtain ⟨⟨y0, _, _, _, _, _⟩, _⟩ := YA.six
  have hlA := YA.lt
  clear YA YZ
  clear Hp
  rcases hc with rfl | rfl | rfl
  · exact absurd rfl h
  · clear h
    go_wp2_with fail
    refine bodyPost_ret (v := .tuple #[zg, .int .i64 2]) (by simp [results, Tryd.results15, go_sem, z0, z1, z2, z3, z4, z5]) rfl ⟨rfl, ?_⟩
    repeat' (first | (with_reducible exact B2) | (with_reducible refine Below.setCell ?_ ?_ _) | go_size)
  · clear h
    go_wp2_with fail
    refine bodyPost_ret (v := .tuple #[zg, .int .i64 7]) (by simp [results, Tryd.results15, go_sem, z0, z1, z2, z3, z4, z5]) rfl ⟨rfl, ?_⟩
    repeat' (first | (with_reducible exact B2) | (with_reducible refine Below.setCell ?_ ?_ _) | go_size)

set_option maxHeartbeats 1000000 in
theorem rpermute_bad3 (n : Int) (a : Nat → Int) (ra : Rng a) (A : Option Addr) (len cap : Nat) (x : Nat → Int) (h0 : gcode n a = 0) (h : pcode len x = 0) (hn : (len : Int) ≠ n) (hl : len ≤ 5) (w : World) (hA : IsInts w A len cap x) :
    Calls Tryd.prog 15 #[iv n a, .slice A len cap] w fun e w' => e = .returned (.tuple #[zg, .int .i64 22]) ∧ Below w.heap.size w w' := by
  have Hc := Lib.hid (fun w => rcheck_code n a ra w)
  rw [h0] at Hc
  have Hp := Lib.hid (fun w hA => rpc_code len cap A x w hA)
  rw [h] at Hp
  have HA := Lib.hid hA
  have hne : ((len : Int) != n) = true := by simpa using hn
  clear ra h0 hA h
  go_enter Tryd.func15, Tryd.ntmps15
  go_wp2_with fail
  refine (Hc.out _).mono ?_
  rintro e w1 ⟨rfl, hb1⟩
  have YA : Box w1 w.heap.size #[.int .i64 n, .int .i64 (a 0), .int .i64 (a 1), .int .i64 (a 2), .int .i64 (a 3), .int .i64 (a 4)] 24 := ((Box.new w _ _).alloc _).below hb1 (by simp; omega)
  have YZ : Box w1 (w.heap.size + 1) #[.int .i64 0, .int .i64 0, .int .i64 0, .int .i64 0, .int .i64 0, .int .i64 0] 24 := (Box.at_ (by simp) _ _).below hb1 (by simp)
  have B1 : Below w.heap.size w w1 := (((Below.refl w.heap.size w).alloc (Nat.le_refl _) _).alloc (by simp) _).trans (Joins.below_le hb1 (by simp; omega))
  clear hb1
  clear Hc
  go_wp2_with fail
  refine (Hp.out _ (HA.out.below B1)).mono ?_
  rintro e w' ⟨rfl, d, rfl⟩
  have B2 : Below w.heap.size w (w1.drewN d) := below_dn d B1
  obtain ⟨⟨z0, z1, z2, z3, z4, z5⟩, zf0, zf1, zf2, zf3, zf4, zf5⟩ := YZ.six
  have hlZ := YZ.lt
  obtain ⟨⟨y0, _, _, _, _, _⟩, _⟩ := YA.six
  have hlA := YA.lt
  clear YA YZ
  clear Hp
  go_wp2_with fail
  refine bodyPost_ret (v := .tuple #[zg, .int .i64 22]) (by simp [results, Tryd.results15, go_sem, z0, z1, z2, z3, z4, z5]) rfl ⟨rfl, ?_⟩
  repeat' (first | (with_reducible exact B2) | (with_reducible refine Below.setCell ?_ ?_ _) | go_size)

theorem pgr_none {n : Nat} {f k : Nat → Nat} {i : Nat} : ∀ m, (∀ l, l < m → f l ≠ i) → pgr n f k m i = 0
  | 0, _ => rfl
  | m + 1, h => by
    unfold pgr
    rw [if_neg (fun e => h m (by omega) e.symm)]
    exact pgr_none m (fun l hl => h l (by omega))

/-- Rows of the renamed graph: those of the processes before p, and of p what is gathered of m elements. -/
def pin (n : Nat) (f k : Nat → Nat) (p m i : Nat) : Nat := if i = f p then img f (k p) m else pgr n f k p i
theorem pin_set (n : Nat) (f k : Nat → Nat) (p m : Nat) : (fun i => if i = f p then img f (k p) (m + 1) else pin n f k p m i) = pin n f k p (m + 1) := by
  funext i
  unfold pin
  by_cases h : i = f p
  · rw [if_pos h, if_pos h]
  · rw [if_neg h, if_neg h, if_neg h]
theorem pin_end (n : Nat) (f k : Nat → Nat) (p : Nat) : pin n f k p n = pgr n f k (p + 1) := rfl
theorem pin_start {n : Nat} {f k : Nat → Nat} (h : Perm n f) {p : Nat} (hp : p < n) : pin n f k p 0 = pgr n f k p := by
  funext i
  unfold pin
  by_cases e : i = f p
  · rw [if_pos e]
    show 0 = _
    rw [e, pgr_none p (fun l hl e2 => by have := h.inj l p (by omega) hp e2; omega)]
  · rw [if_neg e]
theorem pin_at (n : Nat) (f k : Nat → Nat) (p m : Nat) : pin n f k p m (f p) = img f (k p) m := by simp [pin]

theorem img_bit {f : Nat → Nat} {s m n : Nat} (hn : n ≤ 5) (hf : ∀ p, p < n → f p < n) (hm : m < n) (h : s / 2 ^ m % 2 = 1) : bits .or .i64 ((img f s m : Nat) : Int) ((2 ^ f m : Nat) : Int) = ((img f s (m + 1) : Nat) : Int) := by
  have := img_in (s := s) hn hf hm
  rw [h, Nat.one_mul] at this
  exact this
theorem img_out {f : Nat → Nat} {s m : Nat} (h : ¬ s / 2 ^ m % 2 = 1) : img f s (m + 1) = img f s m := by
  have h0 : s / 2 ^ m % 2 = 0 := by have := Nat.mod_lt (s / 2 ^ m) (show 0 < 2 by omega); omega
  show img f s m ||| (s / 2 ^ m % 2 * 2 ^ f m) = _
  rw [h0]; simp

set_option maxHeartbeats 4000000 in
theorem rrenamed_ok (n cap b off : Nat) (f a : Nat → Nat) (ha : WF n a) (hc : n ≤ cap) (hf : Perm n f) (w : World) (hA : Arr w b off n f) :
    Calls Tryd.prog 37 #[gv n a, .slice (some ⟨b, off, none⟩) n cap] w fun e w' => e = .returned (gv n (pgr n f a n)) ∧ Below w.heap.size w w' := by
  have h1 : 1 ≤ n := ha.1.1
  have h5 : n ≤ 5 := ha.1.2
  have Har := Lib.hid (fun p (hp : p < n) => pow_small h5 (ha.2.1 p hp).1)
  have Hf := Lib.hid hf
  have HA := Lib.hid hA
  have hbw := hA.lt
  clear ha hf hA
  go_enter Tryd.func37, Tryd.ntmps37
  go_wp2_with fail
  obtain ⟨W, hW⟩ : ∃ W, (((w.alloc (.cells #[.int .i64 (n : Int), .int .i64 (a 0 : Int), .int .i64 (a 1 : Int), .int .i64 (a 2 : Int), .int .i64 (a 3 : Int), .int .i64 (a 4 : Int)] 24)).alloc (.cells #[.int .i64 0, .int .i64 0, .int .i64 0, .int .i64 0, .int .i64 0, .int .i64 0] 24)).alloc (.cells #[.int .i64 (n : Int), .int .i64 0, .int .i64 0, .int .i64 0, .int .i64 0, .int .i64 0] 24)) = W := ⟨_, rfl⟩
  rw [hW]
  have XA : Box W w.heap.size #[.int .i64 (n : Int), .int .i64 (a 0 : Int), .int .i64 (a 1 : Int), .int .i64 (a 2 : Int), .int .i64 (a 3 : Int), .int .i64 (a 4 : Int)] 24 := hW ▸ ((Box.new w _ _).alloc _).alloc _
  have XZ : Box W (w.heap.size + 1) #[.int .i64 0, .int .i64 0, .int .i64 0, .int .i64 0, .int .i64 0, .int .i64 0] 24 := hW ▸ (Box.at_ (by simp) _ _).alloc _
  have XR : Box W (w.heap.size + 1 + 1) (gcells n (pgr n f a 0)) 24 := hW ▸ Box.at_ (by simp) _ _
  have B1 : Below w.heap.size w W := hW ▸ (((Below.refl w.heap.size w).alloc (Nat.le_refl _) _).alloc (by simp) _).alloc (by simp; omega) _
  clear hW
  obtain ⟨R, hR⟩ : ∃ R, w.heap.size + 1 + 1 = R := ⟨_, rfl⟩
  have hz0 : w.heap.size < R := by omega
  have hz1 : w.heap.size + 1 < R := by omega
  rw [hR] at XR ⊢
  have CA : Hid (∀ m, m < 5 → ∀ V, Below R W V → V.cell? ⟨w.heap.size, 1 + m, none⟩ = some (.int .i64 (a m : Int))) := Lib.hid (fun m hm V hV => cell_row (n := n) (k := a) (fun i _ => (XA.below hV hz0).cell i) hm)
  have CN : Hid (∀ V, Below R W V → V.cell? ⟨w.heap.size, 0, none⟩ = some (.int .i64 (n : Int))) := Lib.hid (fun V hV => (XA.below hV hz0).cell 0)
  have CF : Hid (∀ m, m < n → ∀ V, Below R W V → V.cell? ⟨b, off + m, none⟩ = some (.int .i64 (f m : Int))) := Lib.hid (fun m hm V hV => (HA.out.below (B1.trans (Joins.below_le hV (by omega)))).cell m hm)
  have HXZ := Lib.hid XZ
  have HB1 := Lib.hid B1
  clear XA XZ B1 hR HA
  go_loopw [6] (fun j wr => ∃ p : Nat, p ≤ n ∧ j = .int .i64 p ∧ Below R W wr ∧ Box wr R (gcells n (pgr n f a p)) 24) (fun j _ => n - (intOf j).toNat)
  case atStart => exact ⟨0, by omega, rfl, Below.refl _ _, XR⟩
  case round =>
    obtain ⟨p, hp, rfl, hB, hX⟩ := hrel
    clear XR
    have hcn := CN.out wr hB
    by_cases hlt : p < n
    · have HX : Hid (Box wr R (gcells n (pin n f a p 0)) 24) := Lib.hid (by rw [pin_start Hf.out hlt]; exact hX)
      have HB := Lib.hid hB
      clear hX hB
      go_wp2_with fail
      go_loopw [7] (fun j wr => ∃ m : Nat, m ≤ n ∧ j = .int .i64 m ∧ Below R W wr ∧ Box wr R (gcells n (pin n f a p m)) 24) (fun j _ => n - (intOf j).toNat)
      case atStart => exact ⟨0, by omega, rfl, HB.out, HX.out⟩
      case round =>
        clear HX HB hcn
        obtain ⟨m, hm, rfl, hB, hX⟩ := hrel
        have hcn := CN.out wr hB
        by_cases hml : m < n
        · have hca := CA.out p (by omega) wr hB
          have hcp := CF.out p hlt wr hB
          have hcm := CF.out m hml wr hB
          have hfp := Hf.out.lt p hlt
          have hfm := Hf.out.lt m hml
          have hcr : wr.cell? ⟨R, 1 + f p, none⟩ = some (.int .i64 ((img f (a p) m : Nat) : Int)) := (hX.cell (1 + f p)).trans ((gcells_get (by omega)).trans (by rw [pin_at]))
          have hfr : wr.frozen? ⟨R, 1 + f p, none⟩ = false := hX.open_ (1 + f p)
          have hlR := hX.lt
          have hy := Har.out p hlt
          have hhas := fun w => has_any m (by omega) (a p) hy w
          by_cases hbit : a p / 2 ^ m % 2 = 1
          · have hor := img_bit h5 Hf.out.lt hml hbit
            have hst := hX.set (1 + f p) (.int .i64 ((img f (a p) (m + 1) : Nat) : Int))
            rw [gcells_set (by omega), pin_set] at hst
            rw [decide_eq_true hbit] at hhas
            obtain ⟨u, huu⟩ : ∃ u, img f (a p) m = u := ⟨_, rfl⟩
            obtain ⟨v, hvv⟩ : ∃ v, img f (a p) (m + 1) = v := ⟨_, rfl⟩
            obtain ⟨x, hxx⟩ : ∃ x, a p = x := ⟨_, rfl⟩
            obtain ⟨y, hyy⟩ : ∃ y, f p = y := ⟨_, rfl⟩
            obtain ⟨z, hzz⟩ : ∃ z, f m = z := ⟨_, rfl⟩
            rw [huu] at hcr hor
            rw [hvv] at hor hst
            rw [hxx] at hca hy hhas
            rw [hyy] at hcp hfp hcr hfr hst
            rw [hzz] at hcm hfm hor
            have Hst := Lib.hid hst
            have Hhas := Lib.hid hhas
            have HB := Lib.hid hB
            clear hX hB hbit hst hhas huu hvv hxx hyy hzz
            go_wp2_with fail
            refine (Hhas.out _).mono ?_
            rintro e w' ⟨rfl, rfl⟩
            clear Hhas hca
            obtain rfl | rfl | rfl | rfl | rfl : z = 0 ∨ z = 1 ∨ z = 2 ∨ z = 3 ∨ z = 4 := by omega
            all_goals
              simp only [Nat.reducePow, Nat.reduceAdd, Int.cast_ofNat_Int] at hor hcm
              go_wp2_with fail
              go_region
              all_goals go_wp2_with fail
              all_goals exact ⟨⟨m + 1, by omega, by go_num, (HB.out.setCell (Nat.le_refl _) _).drew, Hst.out⟩, by simp [intOf]; omega⟩
          · have hor := img_out (f := f) hbit
            rw [decide_eq_false hbit] at hhas
            have HX : Hid (Box wr R (gcells n (pin n f a p (m + 1))) 24) := Lib.hid (by
              have e : pin n f a p (m + 1) = pin n f a p m := by funext i; unfold pin; rw [hor]
              rw [e]; exact hX)
            obtain ⟨x, hxx⟩ : ∃ x, a p = x := ⟨_, rfl⟩
            rw [hxx] at hca hy hhas
            have Hhas := Lib.hid hhas
            have HB := Lib.hid hB
            clear hX hB hbit hhas hxx hor hcr
            go_wp2_with fail
            refine (Hhas.out _).mono ?_
            rintro e w' ⟨rfl, rfl⟩
            go_wp2_with fail
            exact ⟨⟨m + 1, by omega, by go_num, HB.out, HX.out⟩, by simp [intOf]; omega⟩
        · have hmn : m = n := by omega
          subst hmn
          have HX : Hid (Box wr R (gcells m (pgr m f a (p + 1))) 24) := Lib.hid (by rw [← pin_end]; exact hX)
          have HB := Lib.hid hB
          clear hX hB
          go_wp2_with fail
          exact ⟨⟨p + 1, by omega, by go_num, HB.out, HX.out⟩, by simp [intOf]; omega⟩
    · have hpn : p = n := by omega
      subst hpn
      have hX2 := hX
      clear hX
      unfold gcells at hX2
      obtain ⟨⟨q0, q1, q2, q3, q4, q5⟩, _⟩ := hX2.six
      have hlR := hX2.lt
      have hZ := HXZ.out.below hB hz1
      obtain ⟨⟨z0, z1, z2, z3, z4, z5⟩, zf0, zf1, zf2, zf3, zf4, zf5⟩ := hZ.six
      have hlZ := hZ.lt
      have B2 := HB1.out.trans (Joins.below_le hB (by omega))
      clear hX2 hZ hB HXZ HB1
      go_wp2_with fail
      refine bodyPost_ret (v := gv p (pgr p f a p)) (by simp [results, Tryd.results37, go_sem, z0, z1, z2, z3, z4, z5]) rfl ⟨rfl, ?_⟩
      repeat' (first | (with_reducible exact B2) | (with_reducible refine Below.setCell ?_ ?_ _) | go_size)
end Go.Proofs.YtmhfhdfiepniaaaDoor
