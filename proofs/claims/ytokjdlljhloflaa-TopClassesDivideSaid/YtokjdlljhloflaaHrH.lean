/- The numbering of three different keys by partition.labels: it returns the slice 0, 1, 2. -/
import Derived.Test.YtokjdlljhloflaaHrB
import Derived.Test.YtokjdlljhloflaaHrA
import Derived.Test.YtokjdlljhloflaaHrC
import Derived.Test.YtokjdlljhloflaaHrD
import Derived.Test.YtokjdlljhloflaaHrE
import Derived.Test.YtokjdlljhloflaaHrF
import Derived.Test.YtokjdlljhloflaaHrG
import Derived.Test.YtokjdlljhloflaaHrI
import Derived.Deep.RegionWith
import Derived.Test.YtokjdlljhloflaaHrM
import Derived.WalkKit
import Derived.WalkSpells
import Derived.WalkLawsBesides
import Derived.Handy
import Derived.Deep.QuietTactic
import Derived.BigQuiet
import Derived.Outline
import Derived.Laws.BitsAllLaws
import Derived.IntWalk
import Derived.Lib.SmallJoins
import Derived.Lib.Hide
namespace Go.Proofs.Ytokjdlljhloflaa.Gra
open Go.RowKit




theorem labels_c (K : Nat) (lb : Array Value) (w : World)
    (hK : ∀ args w, (callFunc K args).run Try.prog w = .ok (.enter K args) w)
    (hf0 : ∀ W, Below w.heap.size w W → Calls Try.prog K (#[.int .i64 0] ++ lb) W fun e W' => e = .returned (.agg #[.int .i64 0, .int .i64 0]) ∧ Below W.heap.size W W')
    (hf1 : ∀ W, Below w.heap.size w W → Calls Try.prog K (#[.int .i64 1] ++ lb) W fun e W' => e = .returned (.agg #[.int .i64 0, .int .i64 1]) ∧ Below W.heap.size W W')
    (hf2 : ∀ W, Below w.heap.size w W → Calls Try.prog K (#[.int .i64 2] ++ lb) W fun e W' => e = .returned (.agg #[.int .i64 1, .int .i64 1]) ∧ Below W.heap.size W W') :
    Calls Try.prog 22 #[.int .i64 3, .func (.func K) #[] lb] w
      fun e w' => ∃ g, e = .returned (.slice (some ⟨g, 0, none⟩) 3 3) ∧ Below w.heap.size w w' ∧ w.heap.size ≤ g ∧ w'.heap[g]? = some (.cells #[.int .i64 0, .int .i64 1, .int .i64 2] 3 (0, 0)) := by
  have H0 := Lib.hid hf0
  have H1 := Lib.hid hf1
  have H2 := Lib.hid hf2
  clear hf0 hf1 hf2
  have hmm := @run_makeMap Try.prog
  have hmk : ∀ w, (Instr.makeSlice 22 (.int .i64 3) (.int .i64 3)).run Try.prog w = .ok (.slice (some ⟨w.heap.size, 0, none⟩) 3 3) (w.alloc (.cells #[.int .i64 0, .int .i64 0, .int .i64 0] 3)) := fun _ => by kernel_rfl
  go_enter Try.func22, Try.ntmps22
  go_wp2_with fail
  have s0 := St.start w
  refine wp_loop_rounds 4 ?_
  rw [rounds_succ]
  go_wp2_with fail
  refine (H0.out _ s0.below).mono ?_
  rintro e v0 ⟨rfl, hb0⟩
  have a0 := (s0.call hb0).alloc (.cells #[.int .i64 0, .int .i64 0] 50)
  have l0 := lk_none _ w.heap.size _ _ _ a0.map (c1 _ 0 0 _) (fn0 _)
  have n0 : (Builtin.len_ #[60] 3 #[.map (some w.heap.size)]).run Try.prog _ = .ok (.int .i64 0) _ := len_at _ w.heap.size _ _ a0.map
  obtain ⟨u0, hu0, t0, k0⟩ := a0.up 0 0 (.int .i64 0) fn0
  have m0 := lk_some u0 w.heap.size _ _ _ _ _ t0.map (c1 _ 0 0 _) (fs0 _)
  have e0 := k0 v0.heap.size (by have := (s0.call hb0).size; omega)
  have p0 : u0.cell? ⟨v0.heap.size, 0, none⟩ = some (.int .i64 0) := (World.cell?_of_block (a := ⟨v0.heap.size, 0, none⟩) e0).trans (World.cell?_alloc_mark v0 _ _ (0, 0) 0)
  have q0 : u0.cell? ⟨v0.heap.size, 1, none⟩ = some (.int .i64 0) := (World.cell?_of_block (a := ⟨v0.heap.size, 1, none⟩) e0).trans (World.cell?_alloc_mark v0 _ _ (0, 0) 1)
  have y0 : u0.cell? ⟨w.heap.size + 1, 0, none⟩ = some (.int .i64 0) := Joins.cell_of_block t0.row 0
  have z0 : u0.frozen? ⟨w.heap.size + 1, 0, none⟩ = false := Joins.unfrozen_of_block t0.row 0
  clear e0 k0
  go_wp2_with fail
  have s1 := t0.store 0 (.int .i64 0)
  rw [rounds_succ]
  go_wp2_with fail
  refine (H1.out _ s1.below).mono ?_
  rintro e v1 ⟨rfl, hb1⟩
  have a1 := (s1.call hb1).alloc (.cells #[.int .i64 0, .int .i64 1] 50)
  have l1 := lk_none _ w.heap.size _ _ _ a1.map (c1 _ 0 1 _) (fn1 _)
  have n1 : (Builtin.len_ #[60] 3 #[.map (some w.heap.size)]).run Try.prog _ = .ok (.int .i64 1) _ := len_at _ w.heap.size _ _ a1.map
  obtain ⟨u1, hu1, t1, k1⟩ := a1.up 0 1 (.int .i64 1) fn1
  have m1 := lk_some u1 w.heap.size _ _ _ _ _ t1.map (c1 _ 0 1 _) (fs1 _)
  have e1 := k1 v1.heap.size (by have := (s1.call hb1).size; omega)
  have p1 : u1.cell? ⟨v1.heap.size, 0, none⟩ = some (.int .i64 0) := (World.cell?_of_block (a := ⟨v1.heap.size, 0, none⟩) e1).trans (World.cell?_alloc_mark v1 _ _ (0, 0) 0)
  have q1 : u1.cell? ⟨v1.heap.size, 1, none⟩ = some (.int .i64 1) := (World.cell?_of_block (a := ⟨v1.heap.size, 1, none⟩) e1).trans (World.cell?_alloc_mark v1 _ _ (0, 0) 1)
  have y1 : u1.cell? ⟨w.heap.size + 1, 1, none⟩ = some (.int .i64 0) := Joins.cell_of_block t1.row 1
  have z1 : u1.frozen? ⟨w.heap.size + 1, 1, none⟩ = false := Joins.unfrozen_of_block t1.row 1
  clear e1 k1
  go_wp2_with fail
  have s2 := t1.store 1 (.int .i64 1)
  rw [rounds_succ]
  go_wp2_with fail
  refine (H2.out _ s2.below).mono ?_
  rintro e v2 ⟨rfl, hb2⟩
  have a2 := (s2.call hb2).alloc (.cells #[.int .i64 1, .int .i64 1] 50)
  have l2 := lk_none _ w.heap.size _ _ _ a2.map (c1 _ 1 1 _) (fn2 _)
  have n2 : (Builtin.len_ #[60] 3 #[.map (some w.heap.size)]).run Try.prog _ = .ok (.int .i64 2) _ := len_at _ w.heap.size _ _ a2.map
  obtain ⟨u2, hu2, t2, k2⟩ := a2.up 1 1 (.int .i64 2) fn2
  have m2 := lk_some u2 w.heap.size _ _ _ _ _ t2.map (c1 _ 1 1 _) (fs2 _)
  have e2 := k2 v2.heap.size (by have := (s2.call hb2).size; omega)
  have p2 : u2.cell? ⟨v2.heap.size, 0, none⟩ = some (.int .i64 1) := (World.cell?_of_block (a := ⟨v2.heap.size, 0, none⟩) e2).trans (World.cell?_alloc_mark v2 _ _ (0, 0) 0)
  have q2 : u2.cell? ⟨v2.heap.size, 1, none⟩ = some (.int .i64 1) := (World.cell?_of_block (a := ⟨v2.heap.size, 1, none⟩) e2).trans (World.cell?_alloc_mark v2 _ _ (0, 0) 1)
  have y2 : u2.cell? ⟨w.heap.size + 1, 2, none⟩ = some (.int .i64 0) := Joins.cell_of_block t2.row 2
  have z2 : u2.frozen? ⟨w.heap.size + 1, 2, none⟩ = false := Joins.unfrozen_of_block t2.row 2
  clear e2 k2
  go_wp2_with fail
  have s3 := t2.store 2 (.int .i64 2)
  rw [rounds_succ]
  go_wp2_with fail
  go_ret
  exact ⟨_, rfl, s3.below, by omega, s3.row⟩
end Go.Proofs.Ytokjdlljhloflaa.Gra
