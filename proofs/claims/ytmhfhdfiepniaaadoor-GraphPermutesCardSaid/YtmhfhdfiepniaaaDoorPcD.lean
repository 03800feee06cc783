/- The walk of roundtablelaw03.GraphPermutes for whatever graph and list: the package and the specification answer alike. -/
import Derived.Test.YtmhfhdfiepniaaaDoorPcC
import Derived.Test.YtmhfhdfiepniaaaDoorGcB
import Derived.Test.YtmhfhdfiepniaaaDoorGrN
import Derived.Test.YtmhfhdfiepniaaaDoorPmA
import Derived.Test.YtmhfhdfiepniaaaDoorPmM
import Derived.Test.YtmhfhdfiepniaaaDoorPmD
import Derived.Test.YtmhfhdfiepniaaaDoorGrR
import Derived.Test.YtmhfhdfiepniaaaDoorTb
import Derived.LoopTactic
import Derived.Deep.RegionWith
import Derived.WalkKit
import Derived.WalkSpells
import Derived.WalkLawsBesides
import Derived.Handy
import Derived.Deep.QuietTactic
import Derived.BigQuiet
import Derived.Outline
import Derived.Laws.BitsAllLaws
import Derived.IntWalk
import Derived.Lib.SmallJoins
import Derived.Lib.Hide
namespace Go.Proofs.YtmhfhdfiepniaaaDoor
set_option linter.unusedVariables false
set_option linter.unusedSimpArgs false
open Go.RowKit

set_option maxHeartbeats 1000000 in
theorem rpermute_ok (n cap b off : Nat) (f a : Nat → Nat) (ha : WF n a) (hc : n ≤ cap) (hf : Perm n f) (x : Nat → Int) (hp : pcode n x = 0) (hx : ∀ i, i < n → x i = (f i : Int)) (ra : Rng (fun p => (a p : Int))) (w : World) (hA : Arr w b off n f) :
    Calls Tryd.prog 15 #[gv n a, .slice (some ⟨b, off, none⟩) n cap] w fun e w' => e = .returned (.tuple #[gv n (pgr n f a n), .int .i64 0]) ∧ Below w.heap.size w w' := by
  have h1 : 1 ≤ n := ha.1.1
  have h5 : n ≤ 5 := ha.1.2
  have HC := Lib.hid (fun w => rcheck_yes (n : Int) _ ra (wfi_of ha) w)
  have HP : Hid (∀ w, Arr w b off n f → Calls Tryd.prog 36 #[.slice (some ⟨b, off, none⟩) n cap] w fun e w' => e = .returned (.int .i64 0) ∧ ∃ d, w' = w.drewN d) := Lib.hid (fun w hA => by
    have := rpc_in n cap b off x h1 h5 w (fun i hi => by rw [hx i hi]; exact hA.cell i hi)
    rw [hp] at this
    exact this)
  have HR := Lib.hid (fun w hA => rrenamed_ok n cap b off f a ha hc hf w hA)
  have HA := Lib.hid hA
  clear ha hf hp hx ra hA
  go_enter Tryd.func15, Tryd.ntmps15
  go_wp2_with fail
  refine (HC.out _).mono ?_
  rintro e w1 ⟨rfl, hb1⟩
  have YA : Box w1 w.heap.size #[.int .i64 (n : Int), .int .i64 (a 0 : Int), .int .i64 (a 1 : Int), .int .i64 (a 2 : Int), .int .i64 (a 3 : Int), .int .i64 (a 4 : Int)] 24 := ((Box.new w _ _).alloc _).below hb1 (by simp; omega)
  have YZ : Box w1 (w.heap.size + 1) #[.int .i64 0, .int .i64 0, .int .i64 0, .int .i64 0, .int .i64 0, .int .i64 0] 24 := (Box.at_ (by simp) _ _).below hb1 (by simp)
  have B1 : Below w.heap.size w w1 := (((Below.refl w.heap.size w).alloc (Nat.le_refl _) _).alloc (by simp) _).trans (Joins.below_le hb1 (by simp; omega))
  clear hb1 HC
  go_wp2_with fail
  refine (HP.out _ (HA.out.below B1)).mono ?_
  rintro e w' ⟨rfl, d, rfl⟩
  have B2 : Below w.heap.size w (w1.drewN d) := below_dn d B1
  have YA2 : Box (w1.drewN d) w.heap.size _ _ := YA.below (below_dn d (Below.refl w1.heap.size w1)) YA.lt
  have YZ2 : Box (w1.drewN d) (w.heap.size + 1) _ _ := YZ.below (below_dn d (Below.refl w1.heap.size w1)) YZ.lt
  clear YA YZ B1 HP
  obtain ⟨w2, hw2⟩ : ∃ w2, w1.drewN d = w2 := ⟨_, rfl⟩
  rw [hw2] at B2 YA2 YZ2 ⊢
  clear hw2
  have hA2 := YA2.lt
  obtain ⟨⟨y0, y1, y2, y3, y4, y5⟩, _⟩ := YA2.six
  go_wp2_with fail
  refine (HR.out _ (HA.out.below B2)).mono ?_
  rintro e w3 ⟨rfl, hb3⟩
  clear y0 y1 y2 y3 y4 y5 hA2
  have YZ := YZ2.below hb3 YZ2.lt
  have B3 := B2.trans (Joins.below_le hb3 B2.size)
  clear hb3 YZ2 YA2 B2 HR
  obtain ⟨⟨z0, z1, z2, z3, z4, z5⟩, zf0, zf1, zf2, zf3, zf4, zf5⟩ := YZ.six
  have hlZ := YZ.lt
  clear YZ
  go_wp2_with fail
  refine bodyPost_ret (v := .tuple #[gv n (pgr n f a n), .int .i64 0]) (by simp [results, Tryd.results15, go_sem, z0, z1, z2, z3, z4, z5]) rfl ⟨rfl, ?_⟩
  repeat' (first | (with_reducible exact B3) | (with_reducible refine Below.setCell ?_ ?_ _) | go_size)

/-- The two functions that rename answer alike, wherever the list lies. -/
theorem alike_permute (n : Int) (a : Nat → Int) (ra : Rng a) (A : Option Addr) (len cap : Nat) (x : Nat → Int) (w0 : World) (hx : IsInts w0 A len cap x) :
    ∃ (n' : Nat) (k : Nat → Nat) (c : Int),
      (∀ w, IsInts w A len cap x → Calls Tryd.prog 14 #[iv n a, .slice A len cap] w fun e w' => e = .returned (.tuple #[gv n' k, .int .i64 c]) ∧ Below w.heap.size w w') ∧
      ∀ w, IsInts w A len cap x → Calls Tryd.prog 15 #[iv n a, .slice A len cap] w fun e w' => e = .returned (.tuple #[gv n' k, .int .i64 c]) ∧ Below w.heap.size w w' := by
  by_cases hg : gcode n a = 0
  · by_cases hp : pcode len x = 0
    · have h15 := (pcode_zero hp).1
      by_cases hl : (len : Int) = n
      · subst hl
        have ka := gcode_zero hg
        have wa := (wf_of' ka).1
        rw [iv_of ka]
        obtain ⟨hperm, hval⟩ := pcode_perm hp
        rcases hx with ⟨_, h0⟩ | ⟨b, off, spot, rfl, hc, hs, _, _⟩
        · omega
        · obtain rfl := hs (by omega)
          have arr : ∀ w, IsInts w (some ⟨b, off, none⟩) len cap x → Arr w b off len (fun i => (x i).toNat) := by
            rintro w (⟨h, _⟩ | ⟨b', off', spot', he, _, _, hlt, hcell⟩)
            · cases h
            · simp only [Option.some.injEq, Addr.mk.injEq] at he
              obtain ⟨rfl, rfl, _⟩ := he
              exact ⟨hlt (by omega), fun i hi => by rw [hcell i hi]; exact congrArg (fun z => some (Value.int .i64 z)) (hval i hi)⟩
          exact ⟨len, _, 0, fun w h => permute_ok len cap b off _ _ wa hc hperm w (arr w h), fun w h => rpermute_ok len cap b off _ _ wa hc hperm x hp hval (rng_of'' wa) w (arr w h)⟩
      · exact ⟨0, fun _ => 0, 22, fun w h => permute_bad3 n a ra A len cap x hg hp hl (by omega) w h, fun w h => rpermute_bad3 n a ra A len cap x hg hp hl (by omega) w h⟩
    · exact ⟨0, fun _ => 0, pcode len x, fun w h => permute_bad2 n a ra A len cap x hg hp w h, fun w h => rpermute_bad2 n a ra A len cap x hg hp w h⟩
  · exact ⟨0, fun _ => 0, gcode n a, fun w h => permute_bad1 n a ra A len cap hg w, fun w h => rpermute_bad1 n a ra A len cap hg w⟩

set_option maxRecDepth 100000 in
set_option maxHeartbeats 2000000 in
theorem permutes_any (na : Int) (a : Nat → Int) (ra : Rng a) (A : Option Addr) (len cap : Nat) (x : Nat → Int) (w : World) (hx : IsInts w A len cap x)
    (awake_ok : ∀ w, Calls Tryd.prog 13 #[] w fun e w' => e = .returned (.bool true) ∧ Below w.heap.size w w') :
    Calls Tryd.prog 4 #[iv na a, .slice A len cap] w fun e w' => e = .returned (.bool true) ∧ Below w.heap.size w w' := by
  have HW := Lib.hid awake_ok
  by_cases hl : 20 < len
  · clear awake_ok hx ra
    go_enter Tryd.func4, Tryd.ntmps4
    go_wp2_with fail
    refine (HW.out _).mono ?_
    rintro e w1 ⟨rfl, hb1⟩
    go_wp2_with fail
    go_ret
    exact ⟨rfl, fresh_below hb1⟩
  · have heql := run_eql_g
    have hneq := run_neq_g
    obtain ⟨n1, k1, c1, P1, R1⟩ := alike_permute na a ra A len cap x w hx
    have t1 : geq n1 n1 (k1 0) (k1 1) (k1 2) (k1 3) (k1 4) (k1 0) (k1 1) (k1 2) (k1 3) (k1 4) = true := geq_self _ _ _ _ _ _ _ _ _ _ _ rfl rfl rfl rfl rfl
    have HP1 := Lib.hid P1
    have HR1 := Lib.hid R1
    have HX := Lib.hid hx
    clear P1 R1 awake_ok ra hx
    go_enter Tryd.func4, Tryd.ntmps4
    go_wp2_with fail
    have Ga : G6 (w.alloc (.cells #[.int .i64 na, .int .i64 (a 0), .int .i64 (a 1), .int .i64 (a 2), .int .i64 (a 3), .int .i64 (a 4)] 24)) w.heap.size #[.int .i64 na, .int .i64 (a 0), .int .i64 (a 1), .int .i64 (a 2), .int .i64 (a 3), .int .i64 (a 4)] := G6.new w _ 24
    have B0 : Below w.heap.size w (w.alloc (.cells #[.int .i64 na, .int .i64 (a 0), .int .i64 (a 1), .int .i64 (a 2), .int .i64 (a 3), .int .i64 (a 4)] 24)) := (Below.refl _ _).alloc (Nat.le_refl _) _
    refine (HP1.out _ (HX.out.below B0)).mono ?_
    rintro e w1 ⟨rfl, hb1⟩
    replace Ga := Ga.below hb1
    have B1 := B0.trans (Joins.below_le hb1 B0.size)
    clear B0 hb1 HP1
    have qa := Ga.lt
    have fa0 := Ga.cell 0
    have fa1 := Ga.cell 1
    have fa2 := Ga.cell 2
    have fa3 := Ga.cell 3
    have fa4 := Ga.cell 4
    have fa5 := Ga.cell 5
    simp at fa0 fa1 fa2 fa3 fa4 fa5
    go_wp2_with fail
    refine (HR1.out _ (HX.out.below (B1.alloc B1.size _))).mono ?_
    rintro e w2 ⟨rfl, hb2⟩
    clear qa fa0 fa1 fa2 fa3 fa4 fa5 Ga HR1
    have Gx : G6 w2 w1.heap.size #[.int .i64 (n1 : Int), .int .i64 (k1 0 : Int), .int .i64 (k1 1 : Int), .int .i64 (k1 2 : Int), .int .i64 (k1 3 : Int), .int .i64 (k1 4 : Int)] := (G6.new w1 _ 24).below hb2
    have B2 := B1.trans (Joins.below_le (fresh_below hb2) B1.size)
    clear B1 hb2
    have qx := Gx.lt
    have fx0 := Gx.cell 0
    have fx1 := Gx.cell 1
    have fx2 := Gx.cell 2
    have fx3 := Gx.cell 3
    have fx4 := Gx.cell 4
    have fx5 := Gx.cell 5
    simp at fx0 fx1 fx2 fx3 fx4 fx5
    go_wp2_with fail
    refine (HW.out _).mono ?_
    rintro e w3 ⟨rfl, hb3⟩
    have B3 := B2.trans (Joins.below_le (fresh_below hb3) B2.size)
    go_wp2_with fail
    go_ret
    exact ⟨rfl, B3⟩
end Go.Proofs.YtmhfhdfiepniaaaDoor
