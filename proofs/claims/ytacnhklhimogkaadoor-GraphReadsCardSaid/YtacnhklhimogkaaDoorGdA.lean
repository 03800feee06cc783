/- The walk of roundtablelaw03.GraphReads for whatever graph, text and number: the package and the specification answer alike. -/
import Derived.Test.YtacnhklhimogkaaDoorTxB
import Derived.Test.YtacnhklhimogkaaDoorFoB
import Derived.Test.YtacnhklhimogkaaDoorCkA
import Derived.Test.YtacnhklhimogkaaDoorGcB
import Derived.Test.YtacnhklhimogkaaDoorGrN
import Derived.Test.YtacnhklhimogkaaDoorPmA
import Derived.Test.YtacnhklhimogkaaDoorPmM
import Derived.Test.YtacnhklhimogkaaDoorPmD
import Derived.Test.YtacnhklhimogkaaDoorGrR
import Derived.Test.YtacnhklhimogkaaDoorTb
import Derived.LoopTactic
import Derived.Deep.RegionWith
import Derived.WalkKit
import Derived.WalkSpells
import Derived.WalkLawsBesides
import Derived.Handy
import Derived.Deep.QuietTactic
import Derived.BigQuiet
import Derived.Outline
import Derived.Laws.BitsAllLaws
import Derived.IntWalk
import Derived.Lib.SmallJoins
import Derived.Lib.Hide
namespace Go.Proofs.YtacnhklhimogkaaDoor
set_option linter.unusedVariables false
set_option linter.unusedSimpArgs false
open Go.RowKit

theorem alike_format (n : Int) (a : Nat → Int) (ra : Rng a) : ∃ (t : ByteArray) (c : Int),
    (∀ w, Calls Tryd.prog 27 #[iv n a] w fun e w' => e = .returned (.tuple #[.string t, .int .i64 c]) ∧ Below w.heap.size w w') ∧ ∀ w, Calls Tryd.prog 28 #[iv n a] w fun e w' => e = .returned (.tuple #[.string t, .int .i64 c]) ∧ Below w.heap.size w w' := by
  by_cases h : gcode n a = 0
  · have ka := gcode_zero h
    obtain ⟨N, rfl⟩ := Int.eq_ofNat_of_zero_le (show 0 ≤ n by have := ka.1; omega)
    have wa := (wf_of' ka).1
    rw [iv_of ka]
    exact ⟨_, 0, fun w => format_ok N _ wa w, fun w => rformat_ok N _ wa (rng_of'' wa) w⟩
  · exact ⟨_, gcode n a, fun w => format_bad n a ra h w, fun w => rformat_bad n a ra h w⟩

theorem alike_parse (s : ByteArray) (hs : s.size < 4294967281) : ∃ (N : Int) (h : Nat → Int) (c : Int),
    (∀ m w, 0 < w.heap.size → w.cell? ⟨0, 0, none⟩ = some (.int .i64 m) → Calls Tryd.prog 29 #[.string s] w fun e w' => e = .returned (.tuple #[iv N h, .int .i64 c]) ∧ Below w.heap.size w w') ∧ ∀ w, Calls Tryd.prog 30 #[.string s] w fun e w' => e = .returned (.tuple #[iv N h, .int .i64 c]) ∧ Below w.heap.size w w' := by
  have hno : (¬ IsText s) → ∀ w, Calls Tryd.prog 30 #[.string s] w fun e w' => e = .returned (.tuple #[zg, .int .i64 4]) ∧ Below w.heap.size w w' := by
    intro ht w
    refine (rparse_any s hs w).mono ?_
    rintro e w' ⟨h | h, hb⟩
    · obtain ⟨n, k, h1, _⟩ := h
      exact absurd (isText_of h1) ht
    · exact ⟨h.2, hb⟩
  by_cases h5 : 5 < npart s
  · refine ⟨0, fun _ => 0, 4, fun m w hw hm => ?_, hno (fun h => by have := h.1; omega)⟩
    exact (parse_many s m w hw hm hs h5).mono fun e w' h => h
  · by_cases ht : IsText s
    · refine ⟨((npart s : Nat) : Int), fun p => ((prt s p : Nat) : Int), 0, fun m w hw hm => ?_, fun w => ?_⟩
      · refine (parse_few s m w hw hm hs (by omega)).mono ?_
        rintro e w' ⟨h | h, hb⟩
        · exact ⟨h.2, hb⟩
        · exact absurd ht h.1
      · refine (rparse_any s hs w).mono ?_
        rintro e w' ⟨h | h, hb⟩
        · obtain ⟨n, k, h1, rfl⟩ := h
          obtain ⟨k2, h2, h3⟩ := isT_of ht
          have e := h1.1.symm.trans h2.1
          injection e with e
          injection e with e1 e2
          subst e1 e2
          refine ⟨?_, hb⟩
          show Ending.returned (.tuple #[gv _ k, _]) = .returned (.tuple #[gv _ (prt s), _])
          unfold gv
          rw [h3 0 (by omega), h3 1 (by omega), h3 2 (by omega), h3 3 (by omega), h3 4 (by omega)]
        · obtain ⟨k2, h2, _⟩ := isT_of ht
          exact absurd ⟨_, _, h2⟩ h.1
    · refine ⟨0, fun _ => 0, 4, fun m w hw hm => ?_, hno ht⟩
      refine (parse_few s m w hw hm hs (by omega)).mono ?_
      rintro e w' ⟨h | h, hb⟩
      · exact absurd h.1 ht
      · exact ⟨h.2, hb⟩

/-- A list of graphs comes back. -/
def LOut (N : Nat) (l : List (Nat → Nat)) (c : Int) (B : Nat) (w : World) (e : Ending) (w' : World) : Prop := ∃ v, e = .returned (.tuple #[v, .int .i64 c]) ∧ Below B w w' ∧ Lies w' N v l
theorem alike_all (n : Int) : ∃ (N : Nat) (l : List (Nat → Nat)) (c : Int), l.length ≤ 1000000 ∧
    (∀ w, Calls Tryd.prog 31 #[.int .i64 n] w (LOut N l c w.heap.size w)) ∧ ∀ w, Calls Tryd.prog 32 #[.int .i64 n] w (LOut N l c w.heap.size w) := by
  by_cases h : n < 1 ∨ 5 < n
  · refine ⟨0, [], 2, by simp, fun w => (all_out n h w).mono ?_, fun w => (rall_out n h w).mono ?_⟩
    all_goals
      rintro e w' ⟨rfl, rfl⟩
      exact ⟨_, rfl, Below.refl _ _, ⟨.inl ⟨rfl, rfl⟩⟩⟩
  · obtain ⟨N, rfl⟩ := Int.eq_ofNat_of_zero_le (show 0 ≤ n by omega)
    by_cases h4 : N ≤ 4
    · refine ⟨N, allG N N, 0, by have := allG_le h4 (Nat.le_refl N); omega, fun w => (all_ok N (by omega) h4 w).mono ?_, fun w => (rall_ok N (by omega) (by omega) w).mono ?_⟩
      · rintro e w' ⟨v, rfl, hb, ho⟩
        exact ⟨v, rfl, hb, Lies.of ho⟩
      · rintro e w' (⟨_, v, rfl, hb, ho⟩ | ⟨h5, _⟩)
        · exact ⟨v, rfl, hb, Lies.of ho⟩
        · omega
    · have e5 : N = 5 := by omega
      subst e5
      refine ⟨0, [], 17, by simp, fun w => (all_lim w).mono ?_, fun w => (rall_ok 5 (by omega) (by omega) w).mono ?_⟩
      · rintro e w' ⟨rfl, rfl⟩
        exact ⟨_, rfl, Below.refl _ _, ⟨.inl ⟨rfl, rfl⟩⟩⟩
      · rintro e w' (⟨h4', _⟩ | ⟨_, rfl, hb⟩)
        · omega
        · exact ⟨_, rfl, hb, ⟨.inl ⟨rfl, rfl⟩⟩⟩

theorem run_neq_i (na nb : Int) (a b : Nat → Int) (w : World) :
    (binOp .neq 24 (.agg #[.int .i64 na, .int .i64 (a 0), .int .i64 (a 1), .int .i64 (a 2), .int .i64 (a 3), .int .i64 (a 4)]) (.agg #[.int .i64 nb, .int .i64 (b 0), .int .i64 (b 1), .int .i64 (b 2), .int .i64 (b 3), .int .i64 (b 4)])).run Tryd.prog w = .ok (.bool (!geqI na nb a b)) w := by
  rw [run_neq_struct, run_eqin_i]
  rfl

set_option maxRecDepth 100000 in
set_option maxHeartbeats 4000000 in
theorem reads_any (na : Int) (a : Nat → Int) (ra : Rng a) (s : ByteArray) (n : Int) (m : Int) (w : World) (hw : 0 < w.heap.size) (hm : w.cell? ⟨0, 0, none⟩ = some (.int .i64 m))
    (awake_ok : ∀ w, Calls Tryd.prog 16 #[] w fun e w' => e = .returned (.bool true) ∧ Below w.heap.size w w') :
    Calls Tryd.prog 5 #[iv na a, .string s, .int .i64 n] w fun e w' => e = .returned (.bool true) ∧ Below w.heap.size w w' := by
  have HW := Lib.hid awake_ok
  clear awake_ok
  by_cases hs : 200 < s.size
  · clear hm
    go_enter Tryd.func5, Tryd.ntmps5
    go_wp2_with fail
    have B0 := (Below.refl w.heap.size w).alloc (Nat.le_refl _) (.cells #[.int .i64 na, .int .i64 (a 0), .int .i64 (a 1), .int .i64 (a 2), .int .i64 (a 3), .int .i64 (a 4)] 24)
    refine (HW.out _).mono ?_
    rintro e w1 ⟨rfl, hb⟩
    go_wp2_with fail
    go_ret
    exact ⟨rfl, B0.trans (Joins.below_le hb B0.size)⟩
  obtain ⟨t, c1, P1, R1⟩ := alike_format na a ra
  obtain ⟨N2, k2, c2, P2, R2⟩ := alike_parse s (by omega)
  obtain ⟨N3, l, c3, hl, P3, R3⟩ := alike_all n
  have HP1 := Lib.hid P1
  have HR1 := Lib.hid R1
  have HP2 := Lib.hid P2
  have HR2 := Lib.hid R2
  have HP3 := Lib.hid P3
  have HR3 := Lib.hid R3
  have HSA := Lib.hid (fun u v w hu hv => same_ok N3 l hl u v w hu hv)
  have Hm := Lib.hid hm
  have hneq := fun w => run_neq_i N2 N2 k2 k2 w
  have hre : geqI N2 N2 k2 k2 = true := geqI_iff.2 ⟨rfl, fun _ _ => rfl⟩
  rw [hre] at hneq
  clear P1 R1 P2 R2 P3 R3 hm ra hl hre
  go_enter Tryd.func5, Tryd.ntmps5
  go_wp2_with fail
  have Ga : G6 (w.alloc (.cells #[.int .i64 na, .int .i64 (a 0), .int .i64 (a 1), .int .i64 (a 2), .int .i64 (a 3), .int .i64 (a 4)] 24)) w.heap.size #[.int .i64 na, .int .i64 (a 0), .int .i64 (a 1), .int .i64 (a 2), .int .i64 (a 3), .int .i64 (a 4)] := G6.new w _ 24
  have B0 := (Below.refl w.heap.size w).alloc (Nat.le_refl _) (.cells #[.int .i64 na, .int .i64 (a 0), .int .i64 (a 1), .int .i64 (a 2), .int .i64 (a 3), .int .i64 (a 4)] 24)
  refine (HP1.out _).mono ?_
  rintro e w1 ⟨rfl, hb1⟩
  replace Ga := Ga.below hb1
  have B1 := B0.trans (Joins.below_le hb1 B0.size)
  clear B0 hb1
  have qa := Ga.lt
  have fa0 := Ga.cell 0
  have fa1 := Ga.cell 1
  have fa2 := Ga.cell 2
  have fa3 := Ga.cell 3
  have fa4 := Ga.cell 4
  have fa5 := Ga.cell 5
  simp at fa0 fa1 fa2 fa3 fa4 fa5
  go_wp2_with fail
  refine (HR1.out _).mono ?_
  rintro e w2 ⟨rfl, hb⟩
  clear qa fa0 fa1 fa2 fa3 fa4 fa5
  have B2 := B1.trans (Joins.below_le hb B1.size)
  clear B1 hb Ga
  go_wp2_with fail
  refine (HP2.out m _ (Nat.lt_of_lt_of_le hw B2.size) ((B2.cell (p := ⟨0, 0, none⟩) hw).trans Hm.out)).mono ?_
  rintro e w3 ⟨rfl, hb⟩
  have B3 := B2.trans (Joins.below_le hb B2.size)
  clear B2 hb
  go_upto_region 6 with fail
  have Gb : G6 (w3.alloc (.cells #[.int .i64 N2, .int .i64 (k2 0), .int .i64 (k2 1), .int .i64 (k2 2), .int .i64 (k2 3), .int .i64 (k2 4)] 24)) w3.heap.size #[.int .i64 N2, .int .i64 (k2 0), .int .i64 (k2 1), .int .i64 (k2 2), .int .i64 (k2 3), .int .i64 (k2 4)] := G6.new w3 _ 24
  have B4 := B3.alloc B3.size (.cells #[.int .i64 N2, .int .i64 (k2 0), .int .i64 (k2 1), .int .i64 (k2 2), .int .i64 (k2 3), .int .i64 (k2 4)] 24)
  go_wp2_with fail
  refine (HR2.out _).mono ?_
  rintro e w4 ⟨rfl, hb⟩
  replace Gb := Gb.below hb
  have B5 := B4.trans (Joins.below_le hb B4.size)
  clear B3 B4 hb
  go_upto_region 7 with fail
  have Gc : G6 (w4.alloc (.cells #[.int .i64 N2, .int .i64 (k2 0), .int .i64 (k2 1), .int .i64 (k2 2), .int .i64 (k2 3), .int .i64 (k2 4)] 24)) w4.heap.size #[.int .i64 N2, .int .i64 (k2 0), .int .i64 (k2 1), .int .i64 (k2 2), .int .i64 (k2 3), .int .i64 (k2 4)] := G6.new w4 _ 24
  replace Gb := Gb.alloc (.cells #[.int .i64 N2, .int .i64 (k2 0), .int .i64 (k2 1), .int .i64 (k2 2), .int .i64 (k2 3), .int .i64 (k2 4)] 24)
  have B6 := B5.alloc B5.size (.cells #[.int .i64 N2, .int .i64 (k2 0), .int .i64 (k2 1), .int .i64 (k2 2), .int .i64 (k2 3), .int .i64 (k2 4)] 24)
  have qb := Gb.lt
  have fb0 := Gb.cell 0
  have fb1 := Gb.cell 1
  have fb2 := Gb.cell 2
  have fb3 := Gb.cell 3
  have fb4 := Gb.cell 4
  have fb5 := Gb.cell 5
  simp at fb0 fb1 fb2 fb3 fb4 fb5
  have qc := Gc.lt
  have fc0 := Gc.cell 0
  have fc1 := Gc.cell 1
  have fc2 := Gc.cell 2
  have fc3 := Gc.cell 3
  have fc4 := Gc.cell 4
  have fc5 := Gc.cell 5
  simp at fc0 fc1 fc2 fc3 fc4 fc5
  go_wp2_with fail
  clear qb qc fb0 fb1 fb2 fb3 fb4 fb5 fc0 fc1 fc2 fc3 fc4 fc5
  clear Gb Gc hneq
  refine (HP3.out _).mono ?_
  rintro e w5 ⟨v, rfl, hb, L1⟩
  have B7 := B6.trans (Joins.below_le hb B6.size)
  clear B6 B5 hb
  have HL1 := Lib.hid L1
  clear L1
  go_wp2_with fail
  refine (HR3.out _).mono ?_
  rintro e w6 ⟨v2, rfl, hb, L2⟩
  have B8 := B7.trans (Joins.below_le hb B7.size)
  have HL3 := Lib.hid (HL1.out.below hb)
  have HL2 := Lib.hid L2
  clear B7 hb L2 HL1
  go_wp2_with fail
  refine (HSA.out _ _ _ HL3.out HL2.out).mono ?_
  rintro e w7 ⟨rfl, hb⟩
  have B9 := B8.trans (Joins.below_le hb B8.size)
  clear B8 hb HL3 HL2
  go_wp2_with fail
  refine (HW.out _).mono ?_
  rintro e w8 ⟨rfl, hb⟩
  go_wp2_with fail
  go_ret
  exact ⟨rfl, B9.trans (Joins.below_le hb B9.size)⟩
end Go.Proofs.YtacnhklhimogkaaDoor
