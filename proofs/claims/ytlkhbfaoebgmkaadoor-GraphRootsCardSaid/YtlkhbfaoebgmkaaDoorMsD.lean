/- The walk of roundtablelaw03.GraphMeasures for whatever graphs: the package and the specification answer alike. -/
import Derived.Test.YtlkhbfaoebgmkaaDoorMsC
import Derived.Test.YtlkhbfaoebgmkaaDoorGcB
import Derived.Test.YtlkhbfaoebgmkaaDoorGrN
import Derived.Test.YtlkhbfaoebgmkaaDoorPmA
import Derived.Test.YtlkhbfaoebgmkaaDoorPmM
import Derived.Test.YtlkhbfaoebgmkaaDoorPmD
import Derived.Test.YtlkhbfaoebgmkaaDoorGrR
import Derived.Test.YtlkhbfaoebgmkaaDoorTb
import Derived.LoopTactic
import Derived.Deep.RegionWith
import Derived.WalkKit
import Derived.WalkSpells
import Derived.WalkLawsBesides
import Derived.Handy
import Derived.Deep.QuietTactic
import Derived.BigQuiet
import Derived.Outline
import Derived.Laws.BitsAllLaws
import Derived.IntWalk
import Derived.Lib.SmallJoins
import Derived.Lib.Hide
namespace Go.Proofs.YtlkhbfaoebgmkaaDoor
set_option linter.unusedVariables false
set_option linter.unusedSimpArgs false
open Go.RowKit

set_option maxHeartbeats 1000000 in
theorem inside_bad (na nb : Int) (a b : Nat → Int) (ra : Rng a) (rb : Rng b) (h : gcode2 na nb a b ≠ 0) (w : World) :
    Calls Tryd.prog 17 #[iv na a, iv nb b] w fun e w' => e = .returned (.tuple #[.bool false, .int .i64 (gcode2 na nb a b)]) ∧ Below w.heap.size w w' := by
  have Hc := Lib.hid (fun w => pair_code na nb a b ra rb w)
  have hc := gcode2_cases na nb a b
  obtain ⟨c, ec⟩ : ∃ c, gcode2 na nb a b = c := ⟨_, rfl⟩
  rw [ec] at Hc hc h ⊢
  clear ec ra rb
  go_enter Tryd.func17, Tryd.ntmps17
  go_wp2_with fail
  refine (Hc.out _).mono ?_
  rintro e w1 ⟨rfl, hb1⟩
  have B1 : Below w.heap.size w w1 := (((Below.refl w.heap.size w).alloc (Nat.le_refl _) _).alloc (by simp) _).trans (Joins.below_le hb1 (by simp; omega))
  clear Hc
  rcases hc with rfl | rfl | rfl | rfl
  · exact absurd rfl h
  all_goals
    clear h
    go_wp2_with fail
    go_ret2
    exact ⟨rfl, B1⟩

set_option maxHeartbeats 1000000 in
theorem rinside_bad (na nb : Int) (a b : Nat → Int) (ra : Rng a) (rb : Rng b) (h : gcode2 na nb a b ≠ 0) (w : World) :
    Calls Tryd.prog 18 #[iv na a, iv nb b] w fun e w' => e = .returned (.tuple #[.bool false, .int .i64 (gcode2 na nb a b)]) ∧ Below w.heap.size w w' := by
  have Hc := Lib.hid (fun w => both_code na nb a b ra rb w)
  have hc := gcode2_cases na nb a b
  obtain ⟨c, ec⟩ : ∃ c, gcode2 na nb a b = c := ⟨_, rfl⟩
  rw [ec] at Hc hc h ⊢
  clear ec ra rb
  go_enter Tryd.func18, Tryd.ntmps18
  go_wp2_with fail
  refine (Hc.out _).mono ?_
  rintro e w1 ⟨rfl, hb1⟩
  have B1 : Below w.heap.size w w1 := (((Below.refl w.heap.size w).alloc (Nat.le_refl _) _).alloc (by simp) _).trans (Joins.below_le hb1 (by simp; omega))
  clear Hc
  rcases hc with rfl | rfl | rfl | rfl
  · exact absurd rfl h
  all_goals
    clear h
    go_wp2_with fail
    go_ret2
    exact ⟨rfl, B1⟩

/-- Whether each of the first n rows of a lies in that of b. -/
def wi (n : Nat) (a b : Nat → Nat) : Bool := decide (∀ p, p < n → a p &&& b p = a p)
theorem and_or_iff (x y : Nat) : x &&& y = x ↔ x ||| y = y := by
  constructor
  · intro h
    apply Nat.eq_of_testBit_eq
    intro i
    have := congrArg (fun z => z.testBit i) h
    simp only [Nat.testBit_and] at this
    rw [Nat.testBit_or]
    cases hx : x.testBit i <;> cases hy : y.testBit i <;> simp_all
  · intro h
    apply Nat.eq_of_testBit_eq
    intro i
    have := congrArg (fun z => z.testBit i) h
    simp only [Nat.testBit_or] at this
    rw [Nat.testBit_and]
    cases hx : x.testBit i <;> cases hy : y.testBit i <;> simp_all
theorem wi_geq {n : Nat} {a b : Nat → Nat} (ha : WF n a) (hb : WF n b) : geq n n (a 0 ||| b 0) (a 1 ||| b 1) (a 2 ||| b 2) (a 3 ||| b 3) (a 4 ||| b 4) (b 0) (b 1) (b 2) (b 3) (b 4) = wi n a b := by
  unfold geq wi
  rw [Bool.eq_iff_iff, decide_eq_true_iff, decide_eq_true_iff]
  have key : ∀ p, p < 5 → (a p ||| b p = b p ↔ (p < n → a p &&& b p = a p)) := by
    intro p hp
    by_cases hpn : p < n
    · rw [and_or_iff]; exact ⟨fun h _ => h, fun h => h hpn⟩
    · rw [ha.2.2 p (by omega) hp, hb.2.2 p (by omega) hp]
      simp
  constructor
  · rintro ⟨_, h0, h1, h2, h3, h4⟩ p hp
    have h5 : n ≤ 5 := ha.1.2
    obtain rfl | rfl | rfl | rfl | rfl : p = 0 ∨ p = 1 ∨ p = 2 ∨ p = 3 ∨ p = 4 := by omega
    · exact (key 0 (by omega)).1 h0 hp
    · exact (key 1 (by omega)).1 h1 hp
    · exact (key 2 (by omega)).1 h2 hp
    · exact (key 3 (by omega)).1 h3 hp
    · exact (key 4 (by omega)).1 h4 hp
  · intro h
    exact ⟨rfl, (key 0 (by omega)).2 (h 0), (key 1 (by omega)).2 (h 1), (key 2 (by omega)).2 (h 2), (key 3 (by omega)).2 (h 3), (key 4 (by omega)).2 (h 4)⟩

set_option maxHeartbeats 1000000 in
theorem rwithin_ok (n : Nat) (a b : Nat → Nat) (ha : WF n a) (hb : WF n b) (w : World) :
    Calls Tryd.prog 50 #[gv n a, gv n b] w fun e w' => e = .returned (.bool (wi n a b)) ∧ Below w.heap.size w w' := by
  have h1 : 1 ≤ n := ha.1.1
  have h5 : n ≤ 5 := ha.1.2
  have Hand := Lib.hid (fun p (hp : p < n) => i64_and_nat (a p) (b p) (pow_small h5 (ha.2.1 p hp).1) (pow_small h5 (hb.2.1 p hp).1))
  clear ha hb
  go_enter Tryd.func50, Tryd.ntmps50
  go_wp2_with fail
  obtain ⟨W, hW⟩ : ∃ W, (w.alloc (.cells #[.int .i64 (n : Int), .int .i64 (a 0 : Int), .int .i64 (a 1 : Int), .int .i64 (a 2 : Int), .int .i64 (a 3 : Int), .int .i64 (a 4 : Int)] 24)).alloc (.cells #[.int .i64 (n : Int), .int .i64 (b 0 : Int), .int .i64 (b 1 : Int), .int .i64 (b 2 : Int), .int .i64 (b 3 : Int), .int .i64 (b 4 : Int)] 24) = W := ⟨_, rfl⟩
  rw [hW]
  have XA : Box W w.heap.size #[.int .i64 (n : Int), .int .i64 (a 0 : Int), .int .i64 (a 1 : Int), .int .i64 (a 2 : Int), .int .i64 (a 3 : Int), .int .i64 (a 4 : Int)] 24 := hW ▸ (Box.new w _ _).alloc _
  have XB : Box W (w.heap.size + 1) #[.int .i64 (n : Int), .int .i64 (b 0 : Int), .int .i64 (b 1 : Int), .int .i64 (b 2 : Int), .int .i64 (b 3 : Int), .int .i64 (b 4 : Int)] 24 := hW ▸ Box.at_ (by simp) _ _
  have B1 : Below w.heap.size w W := hW ▸ ((Below.refl _ _).alloc (Nat.le_refl _) _).alloc (by simp) _
  clear hW
  have HA := Lib.hid (fun m (hm : m < 5) => cell_row (n := n) (k := a) (fun i _ => XA.cell i) hm)
  have HB := Lib.hid (fun m (hm : m < 5) => cell_row (n := n) (k := b) (fun i _ => XB.cell i) hm)
  have hcn : W.cell? ⟨w.heap.size, 0, none⟩ = some (.int .i64 (n : Int)) := XA.cell 0
  clear XA XB
  go_loopw [5] (fun j wr => ∃ p : Nat, p ≤ n ∧ j = .int .i64 p ∧ (∃ d, wr = W.drewN d) ∧ ∀ x, x < p → a x &&& b x = a x) (fun j _ => n - (intOf j).toNat)
  case atStart => exact ⟨0, by omega, rfl, ⟨0, rfl⟩, fun x hx => by omega⟩
  case round =>
    obtain ⟨p, hp, rfl, ⟨d, rfl⟩, hall⟩ := hrel
    have Hall := Lib.hid hall
    clear hall
    by_cases hlt : p < n
    · have hca := HA.out p (by omega)
      have hcb := HB.out p (by omega)
      have hand := Hand.out p hlt
      obtain ⟨x, hxx⟩ : ∃ x, a p = x := ⟨_, rfl⟩
      obtain ⟨y, hyy⟩ : ∃ y, b p = y := ⟨_, rfl⟩
      rw [hxx] at hca hand
      rw [hyy] at hcb hand
      have Hx := Lib.hid hxx
      have Hy := Lib.hid hyy
      clear hxx hyy
      by_cases hz : x &&& y = x
      · rw [hz] at hand
        have Hz := Lib.hid hz
        clear hz
        go_wp2_with fail
        go_region
        all_goals go_wp2_with fail
        all_goals exact ⟨⟨p + 1, by omega, by go_num, ⟨d + 1, by first | rfl | (simp only [World.drewN_drewN]; rfl)⟩, fun u hu => by
          rcases Nat.lt_or_eq_of_le (Nat.lt_succ_iff.1 hu) with h | h
          · exact Hall.out u h
          · rw [h, Hx.out, Hy.out]; exact Hz.out⟩, by simp [intOf]; omega⟩
      · have hres : wi n a b = false := decide_eq_false (fun h => hz (by have := h p hlt; rw [Hx.out, Hy.out] at this; exact this))
        have Hres := Lib.hid hres
        obtain ⟨z, hzz⟩ : ∃ z, x &&& y = z := ⟨_, rfl⟩
        rw [hzz] at hand hz
        have hb : (((z : Nat) : Int) != ((x : Nat) : Int)) = true := by rw [bne_iff_ne]; omega
        clear hres hzz hz
        go_wp2_with fail
        go_region
        all_goals go_wp2_with fail
        all_goals go_ret
        all_goals exact ⟨by rw [Hres.out]; rfl, by first | exact below_dn _ B1 | exact below_dn _ (below_dn _ B1) | exact below_dn 1 (below_dn _ B1)⟩
    · have hpn : p = n := by omega
      subst hpn
      have hres : wi p a b = true := decide_eq_true Hall.out
      have Hres := Lib.hid hres
      clear hres
      go_wp2_with fail
      go_ret
      exact ⟨by rw [Hres.out]; rfl, below_dn _ B1⟩

set_option maxHeartbeats 1000000 in
theorem rinside_ok (n : Nat) (a b : Nat → Nat) (ha : WF n a) (hb : WF n b) (ra : Rng (fun p => (a p : Int))) (rb : Rng (fun p => (b p : Int))) (w : World) :
    Calls Tryd.prog 18 #[gv n a, gv n b] w fun e w' => e = .returned (.tuple #[.bool (wi n a b), .int .i64 0]) ∧ Below w.heap.size w w' := by
  have HC := Lib.hid (fun w => both_yes (n : Int) _ _ ra rb (wfi_of ha) (wfi_of hb) w)
  have HP := Lib.hid (fun w => rwithin_ok n a b ha hb w)
  clear ha hb ra rb
  go_enter Tryd.func18, Tryd.ntmps18
  go_wp2_with fail
  refine (HC.out _).mono ?_
  rintro e w1 ⟨rfl, hb1⟩
  have XA : Box w1 w.heap.size #[.int .i64 (n : Int), .int .i64 (a 0 : Int), .int .i64 (a 1 : Int), .int .i64 (a 2 : Int), .int .i64 (a 3 : Int), .int .i64 (a 4 : Int)] 24 := ((Box.new w _ _).alloc _).below hb1 (by simp; omega)
  have XB : Box w1 (w.heap.size + 1) #[.int .i64 (n : Int), .int .i64 (b 0 : Int), .int .i64 (b 1 : Int), .int .i64 (b 2 : Int), .int .i64 (b 3 : Int), .int .i64 (b 4 : Int)] 24 := (Box.at_ (by simp) _ _).below hb1 (by simp)
  have B1 : Below w.heap.size w w1 := (((Below.refl w.heap.size w).alloc (Nat.le_refl _) _).alloc (by simp) _).trans (Joins.below_le hb1 (by simp; omega))
  have hlA := XA.lt
  have hlB := XB.lt
  obtain ⟨⟨y0, y1, y2, y3, y4, y5⟩, _⟩ := XA.six
  obtain ⟨⟨x0, x1, x2, x3, x4, x5⟩, _⟩ := XB.six
  clear hb1 HC XA XB
  go_wp2_with fail
  refine (HP.out _).mono ?_
  rintro e w2 ⟨rfl, hb2⟩
  go_wp2_with fail
  go_ret2
  exact ⟨rfl, B1.trans (Joins.below_le hb2 B1.size)⟩

/-- Two functions answer alike: some truth value, or some number, and some error. -/
def AlikeB (f g : FuncId) (args : Array Value) : Prop := ∃ (r : Bool) (c : Int),
  (∀ w, Calls Tryd.prog f args w fun e w' => e = .returned (.tuple #[.bool r, .int .i64 c]) ∧ Below w.heap.size w w') ∧ ∀ w, Calls Tryd.prog g args w fun e w' => e = .returned (.tuple #[.bool r, .int .i64 c]) ∧ Below w.heap.size w w'
def AlikeI (f g : FuncId) (args : Array Value) : Prop := ∃ (r : Int) (c : Int),
  (∀ w, Calls Tryd.prog f args w fun e w' => e = .returned (.tuple #[.int .i64 r, .int .i64 c]) ∧ Below w.heap.size w w') ∧ ∀ w, Calls Tryd.prog g args w fun e w' => e = .returned (.tuple #[.int .i64 r, .int .i64 c]) ∧ Below w.heap.size w w'

theorem alike_inside (na nb : Int) (a b : Nat → Int) (ra : Rng a) (rb : Rng b) : AlikeB 17 18 #[iv na a, iv nb b] := by
  by_cases h : gcode2 na nb a b = 0
  · obtain ⟨⟨ka, kb⟩, rfl⟩ := gcode2_zero h
    obtain ⟨N, rfl⟩ := Int.eq_ofNat_of_zero_le (show 0 ≤ na by have := ka.1; omega)
    have wa := (wf_of' ka).1
    have wb := (wf_of' kb).1
    rw [iv_of ka, iv_of kb]
    refine ⟨wi N _ _, 0, fun w => ?_, fun w => rinside_ok N _ _ wa wb (rng_of'' wa) (rng_of'' wb) w⟩
    have := inside_ok N _ _ wa wb w
    rw [wi_geq wa wb] at this
    exact this
  · exact ⟨false, gcode2 na nb a b, fun w => inside_bad na nb a b ra rb h w, fun w => rinside_bad na nb a b ra rb h w⟩

theorem alike_edges (n : Int) (a : Nat → Int) (ra : Rng a) : AlikeI 19 20 #[iv n a] := by
  by_cases h : gcode n a = 0
  · have ka := gcode_zero h
    obtain ⟨N, rfl⟩ := Int.eq_ofNat_of_zero_le (show 0 ≤ n by have := ka.1; omega)
    have wa := (wf_of' ka).1
    rw [iv_of ka]
    exact ⟨_, 0, fun w => edges_ok N _ wa w, fun w => redges_ok N _ wa (rng_of'' wa) w⟩
  · exact ⟨0, gcode n a, fun w => edges_bad n a ra h w, fun w => redges_bad n a ra h w⟩

theorem alike_kernel (n : Int) (a : Nat → Int) (ra : Rng a) : AlikeI 21 22 #[iv n a] := by
  by_cases h : gcode n a = 0
  · have ka := gcode_zero h
    obtain ⟨N, rfl⟩ := Int.eq_ofNat_of_zero_le (show 0 ≤ n by have := ka.1; omega)
    have wa := (wf_of' ka).1
    rw [iv_of ka]
    exact ⟨_, 0, fun w => Kernel_ok N _ wa w, fun w => rkernel_ok N _ wa (rng_of'' wa) w⟩
  · exact ⟨0, gcode n a, fun w => kernel1_bad n a ra h w, fun w => rkernel_bad n a ra h w⟩

theorem alike_roots (n : Int) (a : Nat → Int) (ra : Rng a) : AlikeI 23 24 #[iv n a] := by
  by_cases h : gcode n a = 0
  · have ka := gcode_zero h
    obtain ⟨N, rfl⟩ := Int.eq_ofNat_of_zero_le (show 0 ≤ n by have := ka.1; omega)
    have wa := (wf_of' ka).1
    rw [iv_of ka]
    exact ⟨_, 0, fun w => roots_ok N _ wa (rng_of'' wa) w, fun w => rroots_ok N _ wa (rng_of'' wa) w⟩
  · exact ⟨0, gcode n a, fun w => roots_bad n a ra h w, fun w => rroots_bad n a ra h w⟩

theorem alike_nonsplit (n : Int) (a : Nat → Int) (ra : Rng a) : AlikeB 25 26 #[iv n a] := by
  by_cases h : gcode n a = 0
  · have ka := gcode_zero h
    obtain ⟨N, rfl⟩ := Int.eq_ofNat_of_zero_le (show 0 ≤ n by have := ka.1; omega)
    have wa := (wf_of' ka).1
    rw [iv_of ka]
    exact ⟨_, 0, fun w => nonsplit_ok N _ wa (rng_of'' wa) w, fun w => rnonsplit_ok N _ wa (rng_of'' wa) w⟩
  · exact ⟨false, gcode n a, fun w => nonsplit_bad n a ra h w, fun w => rnonsplit_bad n a ra h w⟩

set_option maxRecDepth 100000 in
set_option maxHeartbeats 4000000 in
theorem measures_any (na nb : Int) (a b : Nat → Int) (ra : Rng a) (rb : Rng b) (w : World)
    (awake_ok : ∀ w, Calls Tryd.prog 16 #[] w fun e w' => e = .returned (.bool true) ∧ Below w.heap.size w w') :
    Calls Tryd.prog 4 #[iv na a, iv nb b] w fun e w' => e = .returned (.bool true) ∧ Below w.heap.size w w' := by
  obtain ⟨r1, c1, P1, R1⟩ := alike_inside na nb a b ra rb
  obtain ⟨r2, c2, P2, R2⟩ := alike_edges na a ra
  obtain ⟨r3, c3, P3, R3⟩ := alike_kernel na a ra
  obtain ⟨r4, c4, P4, R4⟩ := alike_roots na a ra
  obtain ⟨r5, c5, P5, R5⟩ := alike_nonsplit na a ra
  have HP1 := Lib.hid P1
  have HR1 := Lib.hid R1
  have HP2 := Lib.hid P2
  have HR2 := Lib.hid R2
  have HP3 := Lib.hid P3
  have HR3 := Lib.hid R3
  have HP4 := Lib.hid P4
  have HR4 := Lib.hid R4
  have HP5 := Lib.hid P5
  have HR5 := Lib.hid R5
  have HW := Lib.hid awake_ok
  clear P1 R1 P2 R2 P3 R3 P4 R4 P5 R5 awake_ok ra rb
  go_enter Tryd.func4, Tryd.ntmps4
  go_wp2_with fail
  have Ga : G6 ((w.alloc (.cells #[.int .i64 na, .int .i64 (a 0), .int .i64 (a 1), .int .i64 (a 2), .int .i64 (a 3), .int .i64 (a 4)] 24)).alloc (.cells #[.int .i64 nb, .int .i64 (b 0), .int .i64 (b 1), .int .i64 (b 2), .int .i64 (b 3), .int .i64 (b 4)] 24)) w.heap.size #[.int .i64 na, .int .i64 (a 0), .int .i64 (a 1), .int .i64 (a 2), .int .i64 (a 3), .int .i64 (a 4)] := (G6.new w _ 24).alloc _
  have Gb : G6 ((w.alloc (.cells #[.int .i64 na, .int .i64 (a 0), .int .i64 (a 1), .int .i64 (a 2), .int .i64 (a 3), .int .i64 (a 4)] 24)).alloc (.cells #[.int .i64 nb, .int .i64 (b 0), .int .i64 (b 1), .int .i64 (b 2), .int .i64 (b 3), .int .i64 (b 4)] 24)) (w.heap.size + 1) #[.int .i64 nb, .int .i64 (b 0), .int .i64 (b 1), .int .i64 (b 2), .int .i64 (b 3), .int .i64 (b 4)] := G6.at_ (by simp) _ 24
  have B0 : Below w.heap.size w ((w.alloc (.cells #[.int .i64 na, .int .i64 (a 0), .int .i64 (a 1), .int .i64 (a 2), .int .i64 (a 3), .int .i64 (a 4)] 24)).alloc (.cells #[.int .i64 nb, .int .i64 (b 0), .int .i64 (b 1), .int .i64 (b 2), .int .i64 (b 3), .int .i64 (b 4)] 24)) := ((Below.refl _ _).alloc (Nat.le_refl _) _).alloc (by simp) _
  refine (HP1.out _).mono ?_
  rintro e w1 ⟨rfl, hb1⟩
  replace Ga := Ga.below hb1
  replace Gb := Gb.below hb1
  have B1 := B0.trans (Joins.below_le hb1 B0.size)
  clear B0 hb1
  have qa := Ga.lt
  have fa0 := Ga.cell 0
  have fa1 := Ga.cell 1
  have fa2 := Ga.cell 2
  have fa3 := Ga.cell 3
  have fa4 := Ga.cell 4
  have fa5 := Ga.cell 5
  simp at fa0 fa1 fa2 fa3 fa4 fa5
  have qb := Gb.lt
  have fb0 := Gb.cell 0
  have fb1 := Gb.cell 1
  have fb2 := Gb.cell 2
  have fb3 := Gb.cell 3
  have fb4 := Gb.cell 4
  have fb5 := Gb.cell 5
  simp at fb0 fb1 fb2 fb3 fb4 fb5
  go_wp2_with fail
  refine (HR1.out _).mono ?_
  rintro e w2 ⟨rfl, hb2⟩
  clear qa qb fa0 fa1 fa2 fa3 fa4 fa5 fb0 fb1 fb2 fb3 fb4 fb5
  replace Ga := Ga.below hb2
  replace Gb := Gb.below hb2
  have B2 := B1.trans (Joins.below_le hb2 B1.size)
  clear B1 hb2
  clear Gb
  have qa := Ga.lt
  have fa0 := Ga.cell 0
  have fa1 := Ga.cell 1
  have fa2 := Ga.cell 2
  have fa3 := Ga.cell 3
  have fa4 := Ga.cell 4
  have fa5 := Ga.cell 5
  simp at fa0 fa1 fa2 fa3 fa4 fa5
  go_wp2_with fail
  refine (HP2.out _).mono ?_
  rintro e w3 ⟨rfl, hb3⟩
  clear qa fa0 fa1 fa2 fa3 fa4 fa5
  replace Ga := Ga.below hb3
  have B3 := B2.trans (Joins.below_le hb3 B2.size)
  clear B2 hb3
  have qa := Ga.lt
  have fa0 := Ga.cell 0
  have fa1 := Ga.cell 1
  have fa2 := Ga.cell 2
  have fa3 := Ga.cell 3
  have fa4 := Ga.cell 4
  have fa5 := Ga.cell 5
  simp at fa0 fa1 fa2 fa3 fa4 fa5
  go_wp2_with fail
  refine (HR2.out _).mono ?_
  rintro e w4 ⟨rfl, hb4⟩
  clear qa fa0 fa1 fa2 fa3 fa4 fa5
  replace Ga := Ga.below hb4
  have B4 := B3.trans (Joins.below_le hb4 B3.size)
  clear B3 hb4
  have qa := Ga.lt
  have fa0 := Ga.cell 0
  have fa1 := Ga.cell 1
  have fa2 := Ga.cell 2
  have fa3 := Ga.cell 3
  have fa4 := Ga.cell 4
  have fa5 := Ga.cell 5
  simp at fa0 fa1 fa2 fa3 fa4 fa5
  go_wp2_with fail
  refine (HP3.out _).mono ?_
  rintro e w5 ⟨rfl, hb5⟩
  clear qa fa0 fa1 fa2 fa3 fa4 fa5
  replace Ga := Ga.below hb5
  have B5 := B4.trans (Joins.below_le hb5 B4.size)
  clear B4 hb5
  have qa := Ga.lt
  have fa0 := Ga.cell 0
  have fa1 := Ga.cell 1
  have fa2 := Ga.cell 2
  have fa3 := Ga.cell 3
  have fa4 := Ga.cell 4
  have fa5 := Ga.cell 5
  simp at fa0 fa1 fa2 fa3 fa4 fa5
  go_wp2_with fail
  refine (HR3.out _).mono ?_
  rintro e w6 ⟨rfl, hb6⟩
  clear qa fa0 fa1 fa2 fa3 fa4 fa5
  replace Ga := Ga.below hb6
  have B6 := B5.trans (Joins.below_le hb6 B5.size)
  clear B5 hb6
  have qa := Ga.lt
  have fa0 := Ga.cell 0
  have fa1 := Ga.cell 1
  have fa2 := Ga.cell 2
  have fa3 := Ga.cell 3
  have fa4 := Ga.cell 4
  have fa5 := Ga.cell 5
  simp at fa0 fa1 fa2 fa3 fa4 fa5
  go_wp2_with fail
  refine (HP4.out _).mono ?_
  rintro e w7 ⟨rfl, hb7⟩
  clear qa fa0 fa1 fa2 fa3 fa4 fa5
  replace Ga := Ga.below hb7
  have B7 := B6.trans (Joins.below_le hb7 B6.size)
  clear B6 hb7
  have qa := Ga.lt
  have fa0 := Ga.cell 0
  have fa1 := Ga.cell 1
  have fa2 := Ga.cell 2
  have fa3 := Ga.cell 3
  have fa4 := Ga.cell 4
  have fa5 := Ga.cell 5
  simp at fa0 fa1 fa2 fa3 fa4 fa5
  go_wp2_with fail
  refine (HR4.out _).mono ?_
  rintro e w8 ⟨rfl, hb8⟩
  clear qa fa0 fa1 fa2 fa3 fa4 fa5
  replace Ga := Ga.below hb8
  have B8 := B7.trans (Joins.below_le hb8 B7.size)
  clear B7 hb8
  have qa := Ga.lt
  have fa0 := Ga.cell 0
  have fa1 := Ga.cell 1
  have fa2 := Ga.cell 2
  have fa3 := Ga.cell 3
  have fa4 := Ga.cell 4
  have fa5 := Ga.cell 5
  simp at fa0 fa1 fa2 fa3 fa4 fa5
  go_wp2_with fail
  refine (HP5.out _).mono ?_
  rintro e w9 ⟨rfl, hb9⟩
  clear qa fa0 fa1 fa2 fa3 fa4 fa5
  replace Ga := Ga.below hb9
  have B9 := B8.trans (Joins.below_le hb9 B8.size)
  clear B8 hb9
  have qa := Ga.lt
  have fa0 := Ga.cell 0
  have fa1 := Ga.cell 1
  have fa2 := Ga.cell 2
  have fa3 := Ga.cell 3
  have fa4 := Ga.cell 4
  have fa5 := Ga.cell 5
  simp at fa0 fa1 fa2 fa3 fa4 fa5
  go_wp2_with fail
  refine (HR5.out _).mono ?_
  rintro e w10 ⟨rfl, hb10⟩
  clear qa fa0 fa1 fa2 fa3 fa4 fa5
  replace Ga := Ga.below hb10
  have B10 := B9.trans (Joins.below_le hb10 B9.size)
  clear B9 hb10
  go_wp2_with fail
  refine (HW.out _).mono ?_
  rintro e w11 ⟨rfl, hb11⟩
  replace Ga := Ga.below hb11
  have B11 := B10.trans (Joins.below_le hb11 B10.size)
  clear B10 hb11
  go_wp2_with fail
  go_ret
  exact ⟨rfl, B11⟩
end Go.Proofs.YtlkhbfaoebgmkaaDoor
