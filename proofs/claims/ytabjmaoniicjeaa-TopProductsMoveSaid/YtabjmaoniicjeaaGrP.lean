/- The walk of roundtabletop.TopGraphsOrdered where the three graphs are well-formed and have the same number of processes: it returns true, and changes nothing that was there. -/
import Derived.Test.YtabjmaoniicjeaaGrB
import Derived.Test.YtabjmaoniicjeaaGrA
import Derived.Test.YtabjmaoniicjeaaGrC
import Derived.Test.YtabjmaoniicjeaaGrD
import Derived.Test.YtabjmaoniicjeaaGrE
import Derived.Test.YtabjmaoniicjeaaGrF
import Derived.Test.YtabjmaoniicjeaaGrG
import Derived.Test.YtabjmaoniicjeaaGrJ
import Derived.Test.YtabjmaoniicjeaaGrL
import Derived.Test.YtabjmaoniicjeaaGrN
import Derived.Deep.RegionWith
import Derived.Test.YtabjmaoniicjeaaGrM
import Derived.WalkKit
import Derived.WalkSpells
import Derived.WalkLawsBesides
import Derived.Handy
import Derived.Deep.QuietTactic
import Derived.BigQuiet
import Derived.Outline
import Derived.Laws.BitsAllLaws
import Derived.IntWalk
import Derived.Lib.SmallJoins
import Derived.Lib.Hide
namespace Go.Proofs.Ytabjmaoniicjeaa
open Go.RowKit






theorem G6.at_ {w : World} {n : Nat} (hn : n = w.heap.size) (c : Array Value) (t : TypeId) : G6 (w.alloc (.cells c t)) n c := by
  subst hn; exact G6.new w c t

theorem rng_of {N : Nat} {k : Nat → Nat} (h : WF N k) : Rng (fun p => (k p : Int)) := by
  intro p hp
  show -9223372036854775808 ≤ (k p : Int) ∧ (k p : Int) ≤ 9223372036854775807
  by_cases hn : p < N
  · have := row_small h hn; omega
  · have := h.2.2 p (by omega) hp; omega

theorem graphs_yes (N : Nat) (a b c : Nat → Nat) (ha : WF N a) (hb : WF N b) (hc : WF N c) (g : Nat) (w : World) (hg : g < w.heap.size)
    (hG : ∀ i, w.cell? ⟨g, i, none⟩ = (#[.int .i64 (N : Int), .int .i64 (a 0 : Int), .int .i64 (a 1 : Int), .int .i64 (a 2 : Int), .int .i64 (a 3 : Int), .int .i64 (a 4 : Int), .int .i64 (N : Int), .int .i64 (b 0 : Int), .int .i64 (b 1 : Int), .int .i64 (b 2 : Int), .int .i64 (b 3 : Int), .int .i64 (b 4 : Int), .int .i64 (N : Int), .int .i64 (c 0 : Int), .int .i64 (c 1 : Int), .int .i64 (c 2 : Int), .int .i64 (c 3 : Int), .int .i64 (c 4 : Int)] : Array Value)[i]?) :
    Calls Try.prog 6 #[.slice (some ⟨g, 0, none⟩) 3 3] w fun e w' => e = .returned (.bool true) ∧ Below w.heap.size w w' :=
  (graphs_any N N N _ _ _ (rng_of ha) (rng_of hb) (rng_of hc) g w hg hG).mono fun e w' ⟨r, he, hr, hB⟩ => ⟨by rw [he, hr.2 ⟨wfi_of ha, wfi_of hb, wfi_of hc, rfl, rfl⟩], hB⟩

set_option maxRecDepth 100000 in
set_option maxHeartbeats 8000000 in
theorem walk_yes (N : Nat) (a b c : Nat → Nat) (ha : WF N a) (hb : WF N b) (hc : WF N c) (w : World) :
    Calls Try.prog 3 #[gv N a, gv N b, gv N c] w fun e w' => e = .returned (.bool true) ∧ Below w.heap.size w w' := by
  have heql := run_eql_g
  have hneq := run_neq_g
  have Ha := Lib.hid ha
  have Hb := Lib.hid hb
  have Hc := Lib.hid hc
  have t1 : geq N N (a 0 ||| b 0) (a 1 ||| b 1) (a 2 ||| b 2) (a 3 ||| b 3) (a 4 ||| b 4) (b 0 ||| a 0) (b 1 ||| a 1) (b 2 ||| a 2) (b 3 ||| a 3) (b 4 ||| a 4) = true := geq_self _ _ _ _ _ _ _ _ _ _ _ (Nat.or_comm _ _) (Nat.or_comm _ _) (Nat.or_comm _ _) (Nat.or_comm _ _) (Nat.or_comm _ _)
  have t2 : geq N N (a 0) (a 1) (a 2) (a 3) (a 4) (a 0) (a 1) (a 2) (a 3) (a 4) = true := geq_self _ _ _ _ _ _ _ _ _ _ _ rfl rfl rfl rfl rfl
  have t3 : geq N N ((a 0 ||| b 0) ||| c 0) ((a 1 ||| b 1) ||| c 1) ((a 2 ||| b 2) ||| c 2) ((a 3 ||| b 3) ||| c 3) ((a 4 ||| b 4) ||| c 4) (a 0 ||| (b 0 ||| c 0)) (a 1 ||| (b 1 ||| c 1)) (a 2 ||| (b 2 ||| c 2)) (a 3 ||| (b 3 ||| c 3)) (a 4 ||| (b 4 ||| c 4)) = true := geq_self _ _ _ _ _ _ _ _ _ _ _ (Nat.or_assoc _ _ _) (Nat.or_assoc _ _ _) (Nat.or_assoc _ _ _) (Nat.or_assoc _ _ _) (Nat.or_assoc _ _ _)
  have t4 : geq N N (a 0 ||| (a 0 ||| b 0)) (a 1 ||| (a 1 ||| b 1)) (a 2 ||| (a 2 ||| b 2)) (a 3 ||| (a 3 ||| b 3)) (a 4 ||| (a 4 ||| b 4)) (a 0 ||| b 0) (a 1 ||| b 1) (a 2 ||| b 2) (a 3 ||| b 3) (a 4 ||| b 4) = true := geq_self _ _ _ _ _ _ _ _ _ _ _ (by rw [← Nat.or_assoc, Nat.or_self]) (by rw [← Nat.or_assoc, Nat.or_self]) (by rw [← Nat.or_assoc, Nat.or_self]) (by rw [← Nat.or_assoc, Nat.or_self]) (by rw [← Nat.or_assoc, Nat.or_self])
  have t5 := geq_both N (a 0) (a 1) (a 2) (a 3) (a 4) (b 0) (b 1) (b 2) (b 3) (b 4) (c 0) (c 1) (c 2) (c 3) (c 4)
  obtain ⟨X, hX⟩ : ∃ X, geq N N (a 0 ||| c 0) (a 1 ||| c 1) (a 2 ||| c 2) (a 3 ||| c 3) (a 4 ||| c 4) (c 0) (c 1) (c 2) (c 3) (c 4) = X := ⟨_, rfl⟩
  obtain ⟨Y, hY⟩ : ∃ Y, geq N N (b 0 ||| c 0) (b 1 ||| c 1) (b 2 ||| c 2) (b 3 ||| c 3) (b 4 ||| c 4) (c 0) (c 1) (c 2) (c 3) (c 4) = Y := ⟨_, rfl⟩
  obtain ⟨Z, hZ⟩ : ∃ Z, geq N N (a 0 ||| b 0) (a 1 ||| b 1) (a 2 ||| b 2) (a 3 ||| b 3) (a 4 ||| b 4) (b 0) (b 1) (b 2) (b 3) (b 4) = Z := ⟨_, rfl⟩
  rw [hX, hY] at t5
  clear ha hb hc
  go_enter Try.func3, Try.ntmps3
  go_wp2_with fail
  refine (awake_c _).mono ?_
  rintro e w1 ⟨rfl, hb1⟩
  have B0 : Below w.heap.size w (((w.alloc (.cells #[.int .i64 (N : Int), .int .i64 ((a 0 : Nat) : Int), .int .i64 ((a 1 : Nat) : Int), .int .i64 ((a 2 : Nat) : Int), .int .i64 ((a 3 : Nat) : Int), .int .i64 ((a 4 : Nat) : Int)] 24)).alloc (.cells #[.int .i64 (N : Int), .int .i64 ((b 0 : Nat) : Int), .int .i64 ((b 1 : Nat) : Int), .int .i64 ((b 2 : Nat) : Int), .int .i64 ((b 3 : Nat) : Int), .int .i64 ((b 4 : Nat) : Int)] 24)).alloc (.cells #[.int .i64 (N : Int), .int .i64 ((c 0 : Nat) : Int), .int .i64 ((c 1 : Nat) : Int), .int .i64 ((c 2 : Nat) : Int), .int .i64 ((c 3 : Nat) : Int), .int .i64 ((c 4 : Nat) : Int)] 24)) := (((Below.refl _ _).alloc (Nat.le_refl _) _).alloc (by simp) _).alloc (by simp; omega) _
  have Ga : G6 w1 w.heap.size #[.int .i64 (N : Int), .int .i64 ((a 0 : Nat) : Int), .int .i64 ((a 1 : Nat) : Int), .int .i64 ((a 2 : Nat) : Int), .int .i64 ((a 3 : Nat) : Int), .int .i64 ((a 4 : Nat) : Int)] := ((((G6.new w _ 24).alloc _).alloc _).below hb1)
  have Gb : G6 w1 (w.heap.size + 1) #[.int .i64 (N : Int), .int .i64 ((b 0 : Nat) : Int), .int .i64 ((b 1 : Nat) : Int), .int .i64 ((b 2 : Nat) : Int), .int .i64 ((b 3 : Nat) : Int), .int .i64 ((b 4 : Nat) : Int)] := (((G6.at_ (by simp) _ 24).alloc _).below hb1)
  have Gc : G6 w1 (w.heap.size + 1 + 1) #[.int .i64 (N : Int), .int .i64 ((c 0 : Nat) : Int), .int .i64 ((c 1 : Nat) : Int), .int .i64 ((c 2 : Nat) : Int), .int .i64 ((c 3 : Nat) : Int), .int .i64 ((c 4 : Nat) : Int)] := ((G6.at_ (by simp) _ 24).below hb1)
  have B1 := B0.trans (Joins.below_le hb1 (by simp; omega))
  clear B0 hb1
  have qa := Ga.lt
  have fa0 := Ga.cell 0
  have fa1 := Ga.cell 1
  have fa2 := Ga.cell 2
  have fa3 := Ga.cell 3
  have fa4 := Ga.cell 4
  have fa5 := Ga.cell 5
  simp at fa0 fa1 fa2 fa3 fa4 fa5
  have qb := Gb.lt
  have fb0 := Gb.cell 0
  have fb1 := Gb.cell 1
  have fb2 := Gb.cell 2
  have fb3 := Gb.cell 3
  have fb4 := Gb.cell 4
  have fb5 := Gb.cell 5
  simp at fb0 fb1 fb2 fb3 fb4 fb5
  have qc := Gc.lt
  have fc0 := Gc.cell 0
  have fc1 := Gc.cell 1
  have fc2 := Gc.cell 2
  have fc3 := Gc.cell 3
  have fc4 := Gc.cell 4
  have fc5 := Gc.cell 5
  simp at fc0 fc1 fc2 fc3 fc4 fc5
  go_wp2_with fail
  refine (graphs_yes N a b c Ha.out Hb.out Hc.out w1.heap.size _ (by simp) (fun i => World.cell?_alloc_mark w1 _ _ (0, 0) i)).mono ?_
  rintro e w2 ⟨rfl, hb2⟩
  clear qa qb qc fa0 fa1 fa2 fa3 fa4 fa5 fb0 fb1 fb2 fb3 fb4 fb5 fc0 fc1 fc2 fc3 fc4 fc5
  replace Ga := (Ga.alloc _).below hb2
  replace Gb := (Gb.alloc _).below hb2
  replace Gc := (Gc.alloc _).below hb2
  have B2 := B1.trans (Joins.below_le (fresh_below hb2) B1.size)
  clear B1 hb2
  have qa := Ga.lt
  have fa0 := Ga.cell 0
  have fa1 := Ga.cell 1
  have fa2 := Ga.cell 2
  have fa3 := Ga.cell 3
  have fa4 := Ga.cell 4
  have fa5 := Ga.cell 5
  simp at fa0 fa1 fa2 fa3 fa4 fa5
  have qb := Gb.lt
  have fb0 := Gb.cell 0
  have fb1 := Gb.cell 1
  have fb2 := Gb.cell 2
  have fb3 := Gb.cell 3
  have fb4 := Gb.cell 4
  have fb5 := Gb.cell 5
  simp at fb0 fb1 fb2 fb3 fb4 fb5
  go_wp2_with fail
  refine (union_ok N a b Ha.out Hb.out _).mono ?_
  rintro e w3 ⟨rfl, hb3⟩
  clear qa qb fa0 fa1 fa2 fa3 fa4 fa5 fb0 fb1 fb2 fb3 fb4 fb5
  replace Ga := Ga.below hb3
  replace Gb := Gb.below hb3
  replace Gc := Gc.below hb3
  have B3 := B2.trans (Joins.below_le hb3 B2.size)
  clear B2 hb3
  have qa := Ga.lt
  have fa0 := Ga.cell 0
  have fa1 := Ga.cell 1
  have fa2 := Ga.cell 2
  have fa3 := Ga.cell 3
  have fa4 := Ga.cell 4
  have fa5 := Ga.cell 5
  simp at fa0 fa1 fa2 fa3 fa4 fa5
  have qb := Gb.lt
  have fb0 := Gb.cell 0
  have fb1 := Gb.cell 1
  have fb2 := Gb.cell 2
  have fb3 := Gb.cell 3
  have fb4 := Gb.cell 4
  have fb5 := Gb.cell 5
  simp at fb0 fb1 fb2 fb3 fb4 fb5
  go_wp2_with fail
  refine (union_ok N b a Hb.out Ha.out _).mono ?_
  rintro e w4 ⟨rfl, hb4⟩
  clear qa qb fa0 fa1 fa2 fa3 fa4 fa5 fb0 fb1 fb2 fb3 fb4 fb5
  replace Ga := (Ga.alloc _).below hb4
  replace Gb := (Gb.alloc _).below hb4
  replace Gc := (Gc.alloc _).below hb4
  have Gab : G6 w4 w3.heap.size #[.int .i64 (N : Int), .int .i64 ((a 0 ||| b 0 : Nat) : Int), .int .i64 ((a 1 ||| b 1 : Nat) : Int), .int .i64 ((a 2 ||| b 2 : Nat) : Int), .int .i64 ((a 3 ||| b 3 : Nat) : Int), .int .i64 ((a 4 ||| b 4 : Nat) : Int)] := (G6.new w3 _ 24).below hb4
  have B4 := B3.trans (Joins.below_le (fresh_below hb4) B3.size)
  clear B3 hb4
  have qb := Gb.lt
  have fb0 := Gb.cell 0
  have fb1 := Gb.cell 1
  have fb2 := Gb.cell 2
  have fb3 := Gb.cell 3
  have fb4 := Gb.cell 4
  have fb5 := Gb.cell 5
  simp at fb0 fb1 fb2 fb3 fb4 fb5
  have qc := Gc.lt
  have fc0 := Gc.cell 0
  have fc1 := Gc.cell 1
  have fc2 := Gc.cell 2
  have fc3 := Gc.cell 3
  have fc4 := Gc.cell 4
  have fc5 := Gc.cell 5
  simp at fc0 fc1 fc2 fc3 fc4 fc5
  go_wp2_with fail
  refine (union_ok N b c Hb.out Hc.out _).mono ?_
  rintro e w5 ⟨rfl, hb5⟩
  clear qb qc fb0 fb1 fb2 fb3 fb4 fb5 fc0 fc1 fc2 fc3 fc4 fc5
  replace Ga := (Ga.alloc _).below hb5
  replace Gb := (Gb.alloc _).below hb5
  replace Gc := (Gc.alloc _).below hb5
  replace Gab := (Gab.alloc _).below hb5
  have Gba : G6 w5 w4.heap.size #[.int .i64 (N : Int), .int .i64 ((b 0 ||| a 0 : Nat) : Int), .int .i64 ((b 1 ||| a 1 : Nat) : Int), .int .i64 ((b 2 ||| a 2 : Nat) : Int), .int .i64 ((b 3 ||| a 3 : Nat) : Int), .int .i64 ((b 4 ||| a 4 : Nat) : Int)] := (G6.new w4 _ 24).below hb5
  have B5 := B4.trans (Joins.below_le (fresh_below hb5) B4.size)
  clear B4 hb5
  have qa := Ga.lt
  have fa0 := Ga.cell 0
  have fa1 := Ga.cell 1
  have fa2 := Ga.cell 2
  have fa3 := Ga.cell 3
  have fa4 := Ga.cell 4
  have fa5 := Ga.cell 5
  simp at fa0 fa1 fa2 fa3 fa4 fa5
  go_wp2_with fail
  refine (union_ok N a a Ha.out Ha.out _).mono ?_
  rintro e w6 ⟨rfl, hb6⟩
  clear qa fa0 fa1 fa2 fa3 fa4 fa5
  replace Ga := (Ga.alloc _).below hb6
  replace Gb := (Gb.alloc _).below hb6
  replace Gc := (Gc.alloc _).below hb6
  replace Gab := (Gab.alloc _).below hb6
  replace Gba := (Gba.alloc _).below hb6
  have Gbc : G6 w6 w5.heap.size #[.int .i64 (N : Int), .int .i64 ((b 0 ||| c 0 : Nat) : Int), .int .i64 ((b 1 ||| c 1 : Nat) : Int), .int .i64 ((b 2 ||| c 2 : Nat) : Int), .int .i64 ((b 3 ||| c 3 : Nat) : Int), .int .i64 ((b 4 ||| c 4 : Nat) : Int)] := (G6.new w5 _ 24).below hb6
  have B6 := B5.trans (Joins.below_le (fresh_below hb6) B5.size)
  clear B5 hb6
  have qab := Gab.lt
  have fab0 := Gab.cell 0
  have fab1 := Gab.cell 1
  have fab2 := Gab.cell 2
  have fab3 := Gab.cell 3
  have fab4 := Gab.cell 4
  have fab5 := Gab.cell 5
  simp at fab0 fab1 fab2 fab3 fab4 fab5
  have qc := Gc.lt
  have fc0 := Gc.cell 0
  have fc1 := Gc.cell 1
  have fc2 := Gc.cell 2
  have fc3 := Gc.cell 3
  have fc4 := Gc.cell 4
  have fc5 := Gc.cell 5
  simp at fc0 fc1 fc2 fc3 fc4 fc5
  go_wp2_with fail
  refine (union_ok N (fun p => a p ||| b p) c (wf_or Ha.out Hb.out) Hc.out _).mono ?_
  rintro e w7 ⟨rfl, hb7⟩
  clear qab qc fab0 fab1 fab2 fab3 fab4 fab5 fc0 fc1 fc2 fc3 fc4 fc5
  replace Ga := (Ga.alloc _).below hb7
  replace Gb := (Gb.alloc _).below hb7
  replace Gc := (Gc.alloc _).below hb7
  replace Gab := (Gab.alloc _).below hb7
  replace Gba := (Gba.alloc _).below hb7
  replace Gbc := (Gbc.alloc _).below hb7
  have Gown : G6 w7 w6.heap.size #[.int .i64 (N : Int), .int .i64 ((a 0 : Nat) : Int), .int .i64 ((a 1 : Nat) : Int), .int .i64 ((a 2 : Nat) : Int), .int .i64 ((a 3 : Nat) : Int), .int .i64 ((a 4 : Nat) : Int)] := (G6.new w6 _ 24).below hb7
  have B7 := B6.trans (Joins.below_le (fresh_below hb7) B6.size)
  clear B6 hb7
  have qa := Ga.lt
  have fa0 := Ga.cell 0
  have fa1 := Ga.cell 1
  have fa2 := Ga.cell 2
  have fa3 := Ga.cell 3
  have fa4 := Ga.cell 4
  have fa5 := Ga.cell 5
  simp at fa0 fa1 fa2 fa3 fa4 fa5
  have qbc := Gbc.lt
  have fbc0 := Gbc.cell 0
  have fbc1 := Gbc.cell 1
  have fbc2 := Gbc.cell 2
  have fbc3 := Gbc.cell 3
  have fbc4 := Gbc.cell 4
  have fbc5 := Gbc.cell 5
  simp at fbc0 fbc1 fbc2 fbc3 fbc4 fbc5
  go_wp2_with fail
  refine (union_ok N a (fun p => b p ||| c p) Ha.out (wf_or Hb.out Hc.out) _).mono ?_
  rintro e w8 ⟨rfl, hb8⟩
  clear qa qbc fa0 fa1 fa2 fa3 fa4 fa5 fbc0 fbc1 fbc2 fbc3 fbc4 fbc5
  replace Ga := (Ga.alloc _).below hb8
  replace Gb := (Gb.alloc _).below hb8
  replace Gc := (Gc.alloc _).below hb8
  replace Gab := (Gab.alloc _).below hb8
  replace Gba := (Gba.alloc _).below hb8
  replace Gbc := (Gbc.alloc _).below hb8
  replace Gown := (Gown.alloc _).below hb8
  have Gleft : G6 w8 w7.heap.size #[.int .i64 (N : Int), .int .i64 (((a 0 ||| b 0) ||| c 0 : Nat) : Int), .int .i64 (((a 1 ||| b 1) ||| c 1 : Nat) : Int), .int .i64 (((a 2 ||| b 2) ||| c 2 : Nat) : Int), .int .i64 (((a 3 ||| b 3) ||| c 3 : Nat) : Int), .int .i64 (((a 4 ||| b 4) ||| c 4 : Nat) : Int)] := (G6.new w7 _ 24).below hb8
  have B8 := B7.trans (Joins.below_le (fresh_below hb8) B7.size)
  clear B7 hb8
  have qab := Gab.lt
  have fab0 := Gab.cell 0
  have fab1 := Gab.cell 1
  have fab2 := Gab.cell 2
  have fab3 := Gab.cell 3
  have fab4 := Gab.cell 4
  have fab5 := Gab.cell 5
  simp at fab0 fab1 fab2 fab3 fab4 fab5
  have qba := Gba.lt
  have fba0 := Gba.cell 0
  have fba1 := Gba.cell 1
  have fba2 := Gba.cell 2
  have fba3 := Gba.cell 3
  have fba4 := Gba.cell 4
  have fba5 := Gba.cell 5
  simp at fba0 fba1 fba2 fba3 fba4 fba5
  have qown := Gown.lt
  have fown0 := Gown.cell 0
  have fown1 := Gown.cell 1
  have fown2 := Gown.cell 2
  have fown3 := Gown.cell 3
  have fown4 := Gown.cell 4
  have fown5 := Gown.cell 5
  simp at fown0 fown1 fown2 fown3 fown4 fown5
  have qa := Ga.lt
  have fa0 := Ga.cell 0
  have fa1 := Ga.cell 1
  have fa2 := Ga.cell 2
  have fa3 := Ga.cell 3
  have fa4 := Ga.cell 4
  have fa5 := Ga.cell 5
  simp at fa0 fa1 fa2 fa3 fa4 fa5
  have qleft := Gleft.lt
  have fleft0 := Gleft.cell 0
  have fleft1 := Gleft.cell 1
  have fleft2 := Gleft.cell 2
  have fleft3 := Gleft.cell 3
  have fleft4 := Gleft.cell 4
  have fleft5 := Gleft.cell 5
  simp at fleft0 fleft1 fleft2 fleft3 fleft4 fleft5
  have qb := Gb.lt
  have fb0 := Gb.cell 0
  have fb1 := Gb.cell 1
  have fb2 := Gb.cell 2
  have fb3 := Gb.cell 3
  have fb4 := Gb.cell 4
  have fb5 := Gb.cell 5
  simp at fb0 fb1 fb2 fb3 fb4 fb5
  go_wp2_with fail
  refine (inside_ok N a b Ha.out Hb.out _).mono ?_
  rintro e w9 ⟨rfl, hb9⟩
  clear qab qba qown qa qleft qb fab0 fab1 fab2 fab3 fab4 fab5 fba0 fba1 fba2 fba3 fba4 fba5 fown0 fown1 fown2 fown3 fown4 fown5 fa0 fa1 fa2 fa3 fa4 fa5 fleft0 fleft1 fleft2 fleft3 fleft4 fleft5 fb0 fb1 fb2 fb3 fb4 fb5
  replace Ga := (Ga.alloc _).below hb9
  replace Gb := (Gb.alloc _).below hb9
  replace Gc := (Gc.alloc _).below hb9
  replace Gab := (Gab.alloc _).below hb9
  have B9 := B8.trans (Joins.below_le (fresh_below hb9) B8.size)
  clear B8 hb9 Gba Gown Gbc Gleft
  have qa := Ga.lt
  have fa0 := Ga.cell 0
  have fa1 := Ga.cell 1
  have fa2 := Ga.cell 2
  have fa3 := Ga.cell 3
  have fa4 := Ga.cell 4
  have fa5 := Ga.cell 5
  simp at fa0 fa1 fa2 fa3 fa4 fa5
  have qab := Gab.lt
  have fab0 := Gab.cell 0
  have fab1 := Gab.cell 1
  have fab2 := Gab.cell 2
  have fab3 := Gab.cell 3
  have fab4 := Gab.cell 4
  have fab5 := Gab.cell 5
  simp at fab0 fab1 fab2 fab3 fab4 fab5
  go_wp2_with fail
  refine (inside_ok N a (fun p => a p ||| b p) Ha.out (wf_or Ha.out Hb.out) _).mono ?_
  rintro e w10 ⟨rfl, hb10⟩
  clear qa qab fa0 fa1 fa2 fa3 fa4 fa5 fab0 fab1 fab2 fab3 fab4 fab5
  replace Ga := Ga.below hb10
  replace Gb := Gb.below hb10
  replace Gc := Gc.below hb10
  replace Gab := Gab.below hb10
  have B10 := B9.trans (Joins.below_le hb10 B9.size)
  clear B9 hb10
  have qa := Ga.lt
  have fa0 := Ga.cell 0
  have fa1 := Ga.cell 1
  have fa2 := Ga.cell 2
  have fa3 := Ga.cell 3
  have fa4 := Ga.cell 4
  have fa5 := Ga.cell 5
  simp at fa0 fa1 fa2 fa3 fa4 fa5
  have qc := Gc.lt
  have fc0 := Gc.cell 0
  have fc1 := Gc.cell 1
  have fc2 := Gc.cell 2
  have fc3 := Gc.cell 3
  have fc4 := Gc.cell 4
  have fc5 := Gc.cell 5
  simp at fc0 fc1 fc2 fc3 fc4 fc5
  go_wp2_with fail
  refine (inside_ok N a c Ha.out Hc.out _).mono ?_
  rintro e w11 ⟨rfl, hb11⟩
  clear qa qc fa0 fa1 fa2 fa3 fa4 fa5 fc0 fc1 fc2 fc3 fc4 fc5
  replace Ga := Ga.below hb11
  replace Gb := Gb.below hb11
  replace Gc := Gc.below hb11
  replace Gab := Gab.below hb11
  have B11 := B10.trans (Joins.below_le hb11 B10.size)
  clear B10 hb11
  have qb := Gb.lt
  have fb0 := Gb.cell 0
  have fb1 := Gb.cell 1
  have fb2 := Gb.cell 2
  have fb3 := Gb.cell 3
  have fb4 := Gb.cell 4
  have fb5 := Gb.cell 5
  simp at fb0 fb1 fb2 fb3 fb4 fb5
  have qc := Gc.lt
  have fc0 := Gc.cell 0
  have fc1 := Gc.cell 1
  have fc2 := Gc.cell 2
  have fc3 := Gc.cell 3
  have fc4 := Gc.cell 4
  have fc5 := Gc.cell 5
  simp at fc0 fc1 fc2 fc3 fc4 fc5
  go_wp2_with fail
  refine (inside_ok N b c Hb.out Hc.out _).mono ?_
  rintro e w12 ⟨rfl, hb12⟩
  clear qb qc fb0 fb1 fb2 fb3 fb4 fb5 fc0 fc1 fc2 fc3 fc4 fc5
  replace Ga := Ga.below hb12
  replace Gb := Gb.below hb12
  replace Gc := Gc.below hb12
  replace Gab := Gab.below hb12
  have B12 := B11.trans (Joins.below_le hb12 B11.size)
  clear B11 hb12
  have qab := Gab.lt
  have fab0 := Gab.cell 0
  have fab1 := Gab.cell 1
  have fab2 := Gab.cell 2
  have fab3 := Gab.cell 3
  have fab4 := Gab.cell 4
  have fab5 := Gab.cell 5
  simp at fab0 fab1 fab2 fab3 fab4 fab5
  have qc := Gc.lt
  have fc0 := Gc.cell 0
  have fc1 := Gc.cell 1
  have fc2 := Gc.cell 2
  have fc3 := Gc.cell 3
  have fc4 := Gc.cell 4
  have fc5 := Gc.cell 5
  simp at fc0 fc1 fc2 fc3 fc4 fc5
  go_wp2_with fail
  refine (inside_ok N (fun p => a p ||| b p) c (wf_or Ha.out Hb.out) Hc.out _).mono ?_
  rintro e w13 ⟨rfl, hb13⟩
  clear qab qc fab0 fab1 fab2 fab3 fab4 fab5 fc0 fc1 fc2 fc3 fc4 fc5
  replace Ga := Ga.below hb13
  replace Gb := Gb.below hb13
  replace Gc := Gc.below hb13
  replace Gab := Gab.below hb13
  have B13 := B12.trans (Joins.below_le hb13 B12.size)
  clear B12 hb13
  have qab := Gab.lt
  have fab0 := Gab.cell 0
  have fab1 := Gab.cell 1
  have fab2 := Gab.cell 2
  have fab3 := Gab.cell 3
  have fab4 := Gab.cell 4
  have fab5 := Gab.cell 5
  simp at fab0 fab1 fab2 fab3 fab4 fab5
  have qb := Gb.lt
  have fb0 := Gb.cell 0
  have fb1 := Gb.cell 1
  have fb2 := Gb.cell 2
  have fb3 := Gb.cell 3
  have fb4 := Gb.cell 4
  have fb5 := Gb.cell 5
  simp at fb0 fb1 fb2 fb3 fb4 fb5
  cases X <;> cases Y <;> cases Z
  all_goals
    go_wp2_with fail
    go_ret
    exact ⟨rfl, B13⟩
end Go.Proofs.Ytabjmaoniicjeaa
