/- The example of the theorems on sets, graphs and partitions: roundtabletop.caseAwake02 returns true, and changes nothing that was there. -/
import Derived.Test.YtokjdlljhloflaaHrB
import Derived.Test.YtokjdlljhloflaaHrA
import Derived.Test.YtokjdlljhloflaaHrC
import Derived.Test.YtokjdlljhloflaaHrD
import Derived.Test.YtokjdlljhloflaaHrE
import Derived.Test.YtokjdlljhloflaaHrF
import Derived.Test.YtokjdlljhloflaaHrG
import Derived.Test.YtokjdlljhloflaaHrH
import Derived.Deep.RegionWith
import Derived.Test.YtokjdlljhloflaaHrM
import Derived.WalkKit
import Derived.WalkSpells
import Derived.WalkLawsBesides
import Derived.Handy
import Derived.Deep.QuietTactic
import Derived.BigQuiet
import Derived.Outline
import Derived.Laws.BitsAllLaws
import Derived.IntWalk
import Derived.Lib.SmallJoins
import Derived.Lib.Hide
namespace Go.Proofs.Ytokjdlljhloflaa.Gra
open Go.RowKit





/-- A slice with three integers, as a block that lay there. -/
structure Has3 (w : World) (g : Nat) (x y z : Int) : Prop where
  lt : g < w.heap.size
  c0 : w.cell? ⟨g, 0, none⟩ = some (.int .i64 x)
  c1 : w.cell? ⟨g, 1, none⟩ = some (.int .i64 y)
  c2 : w.cell? ⟨g, 2, none⟩ = some (.int .i64 z)

theorem Has3.below {w W : World} {g : Nat} {x y z : Int} (h : Has3 w g x y z) (hb : Below w.heap.size w W) : Has3 W g x y z :=
  ⟨Nat.lt_of_lt_of_le h.lt hb.size, (hb.cell (p := ⟨g, 0, none⟩) h.lt).trans h.c0, (hb.cell (p := ⟨g, 1, none⟩) h.lt).trans h.c1, (hb.cell (p := ⟨g, 2, none⟩) h.lt).trans h.c2⟩

theorem Has3.of {w : World} {g : Nat} {x y z : Int} {t : TypeId} {fr : Nat × Nat} (h : w.heap[g]? = some (.cells #[.int .i64 x, .int .i64 y, .int .i64 z] t fr)) : Has3 w g x y z :=
  ⟨(Array.getElem?_eq_some_iff.1 h).1, Joins.cell_of_block h 0, Joins.cell_of_block h 1, Joins.cell_of_block h 2⟩

theorem Has3.new (w : World) (x y z : Int) (t : TypeId) : Has3 (w.alloc (.cells #[.int .i64 x, .int .i64 y, .int .i64 z] t)) w.heap.size x y z :=
  ⟨by simp, World.cell?_alloc_mark w _ t (0, 0) 0, World.cell?_alloc_mark w _ t (0, 0) 1, World.cell?_alloc_mark w _ t (0, 0) 2⟩

theorem Has3.at_ {w : World} {n : Nat} (hn : n = w.heap.size) (x y z : Int) (t : TypeId) : Has3 (w.alloc (.cells #[.int .i64 x, .int .i64 y, .int .i64 z] t)) n x y z := by
  subst hn; exact Has3.new w x y z t

theorem Has3.alloc {w : World} {g : Nat} {x y z : Int} (h : Has3 w g x y z) (o : Obj) : Has3 (w.alloc o) g x y z := h.below ((Below.refl _ _).alloc (Nat.le_refl _) o)

set_option maxHeartbeats 400000 in
theorem ppair_c (g k : Nat) (w : World) (hg : Has3 w g 0 0 1) (hk : Has3 w k 0 1 1) :
    Calls Try.prog 19 #[.slice (some ⟨g, 0, none⟩) 3 3, .slice (some ⟨k, 0, none⟩) 3 3] w fun e w' => e = .returned (.int .i64 0) ∧ w = w' := by
  go_enter Try.func19, Try.ntmps19
  go_wp2_with fail
  refine (part_check_c 0 0 1 (.inl ⟨rfl, rfl, rfl⟩) g _ hg.c0 hg.c1 hg.c2).mono ?_
  rintro e w' ⟨rfl, rfl⟩
  go_wp2_with fail
  refine (part_check_c 0 1 1 (.inr ⟨rfl, rfl, rfl⟩) k _ hk.c0 hk.c1 hk.c2).mono ?_
  rintro e w' ⟨rfl, rfl⟩
  go_wp2_with fail
  go_ret
  exact ⟨rfl, rfl⟩

set_option maxHeartbeats 400000 in
theorem meet_c (g k : Nat) (w : World) (hg : Has3 w g 0 0 1) (hk : Has3 w k 0 1 1) :
    Calls Try.prog 20 #[.slice (some ⟨g, 0, none⟩) 3 3, .slice (some ⟨k, 0, none⟩) 3 3] w
      fun e w' => ∃ r, e = .returned (.slice (some ⟨r, 0, none⟩) 3 3) ∧ Below w.heap.size w w' ∧ Has3 w' r 0 1 2 := by
  have Hg := Lib.hid hg
  have Hk := Lib.hid hk
  clear hg hk
  go_enter Try.func20, Try.ntmps20
  go_wp2_with fail
  have B0 := ((Below.refl w.heap.size w).alloc (Nat.le_refl _) (.cells #[.slice (some ⟨g, 0, none⟩) 3 3] 22)).alloc (by simp) (.cells #[.slice (some ⟨k, 0, none⟩) 3 3] 22)
  refine (labels_c 34 _ _ (fun args w => by kernel_rfl) ?_ ?_ ?_).mono ?_
  · intro W hW
    have lt := hW.size
    simp at lt
    have G := (Hg.out.below B0).below hW
    have K := (Hk.out.below B0).below hW
    exact meet1_c 0 (by omega) _ _ g k 0 0 W (by omega) (by omega) G.lt K.lt
      ((hW.cell (p := ⟨w.heap.size, 0, none⟩) (by simp; omega)).trans (box_cell1' w _ _ _ _ 0)) ((hW.cell (p := ⟨w.heap.size + 1, 0, none⟩) (by simp)).trans (box_cell2' w _ _ _ _ 0)) G.c0 K.c0
  · intro W hW
    have lt := hW.size
    simp at lt
    have G := (Hg.out.below B0).below hW
    have K := (Hk.out.below B0).below hW
    exact meet1_c 1 (by omega) _ _ g k 0 1 W (by omega) (by omega) G.lt K.lt
      ((hW.cell (p := ⟨w.heap.size, 0, none⟩) (by simp; omega)).trans (box_cell1' w _ _ _ _ 0)) ((hW.cell (p := ⟨w.heap.size + 1, 0, none⟩) (by simp)).trans (box_cell2' w _ _ _ _ 0)) G.c1 K.c1
  · intro W hW
    have lt := hW.size
    simp at lt
    have G := (Hg.out.below B0).below hW
    have K := (Hk.out.below B0).below hW
    exact meet1_c 2 (by omega) _ _ g k 1 1 W (by omega) (by omega) G.lt K.lt
      ((hW.cell (p := ⟨w.heap.size, 0, none⟩) (by simp; omega)).trans (box_cell1' w _ _ _ _ 0)) ((hW.cell (p := ⟨w.heap.size + 1, 0, none⟩) (by simp)).trans (box_cell2' w _ _ _ _ 0)) G.c2 K.c2
  rintro e w1 ⟨r, rfl, hb1, hr, hrow⟩
  go_wp2_with fail
  go_ret
  exact ⟨r, rfl, B0.trans (Joins.below_le hb1 (by simp; omega)), Has3.of hrow⟩

set_option maxHeartbeats 400000 in
theorem pmeet_c (g k : Nat) (w : World) (hg : Has3 w g 0 0 1) (hk : Has3 w k 0 1 1) :
    Calls Try.prog 8 #[.slice (some ⟨g, 0, none⟩) 3 3, .slice (some ⟨k, 0, none⟩) 3 3] w
      fun e w' => ∃ r, e = .returned (.tuple #[.slice (some ⟨r, 0, none⟩) 3 3, .int .i64 0]) ∧ Below w.heap.size w w' ∧ Has3 w' r 0 1 2 := by
  have Hg := Lib.hid hg
  have Hk := Lib.hid hk
  clear hg hk
  go_enter Try.func8, Try.ntmps8
  go_wp2_with fail
  refine (ppair_c g k _ Hg.out Hk.out).mono ?_
  rintro e w' ⟨rfl, rfl⟩
  go_wp2_with fail
  refine (meet_c g k _ Hg.out Hk.out).mono ?_
  rintro e w1 ⟨r, rfl, hb1, h3⟩
  have H3 := Lib.hid h3
  clear h3
  go_wp2_with fail
  go_ret2
  exact ⟨r, rfl, hb1, H3.out⟩

theorem gpair_c (w : World) : Calls Try.prog 30 #[.agg #[.int .i64 3, .int .i64 1, .int .i64 2, .int .i64 4, .int .i64 0, .int .i64 0], .agg #[.int .i64 3, .int .i64 7, .int .i64 7, .int .i64 7, .int .i64 0, .int .i64 0]] w fun e w' => e = .returned (.int .i64 0) ∧ Below w.heap.size w w' :=
  pair_ok 3 (fun p => ([1, 2, 4] : List Nat).getD p 0) (fun p => ([7, 7, 7] : List Nat).getD p 0) sil_wf ful_wf w

set_option maxHeartbeats 400000 in
theorem compose_c (w : World) :
    Calls Try.prog 16 #[.agg #[.int .i64 3, .int .i64 1, .int .i64 2, .int .i64 4, .int .i64 0, .int .i64 0], .agg #[.int .i64 3, .int .i64 7, .int .i64 7, .int .i64 7, .int .i64 0, .int .i64 0]] w fun e w' => e = .returned (.tuple #[.agg #[.int .i64 3, .int .i64 7, .int .i64 7, .int .i64 7, .int .i64 0, .int .i64 0], .int .i64 0]) ∧ Below w.heap.size w w' := by
  go_enter Try.func16, Try.ntmps16
  go_wp2_with fail
  refine (gpair_c _).mono ?_
  rintro e w1 ⟨rfl, hb1⟩
  obtain ⟨hc, hf⟩ := bcell hb1
  have hz : w.heap.size + 1 + 1 < w1.heap.size := by have := hb1.size; simp at this; omega
  have hz0 : w.heap.size < w1.heap.size := by omega
  have hz1 : w.heap.size + 1 < w1.heap.size := by omega
  go_wp2_with fail
  refine (product_c _).mono ?_
  rintro e w2 ⟨rfl, hb2⟩
  obtain ⟨hc2, hf2⟩ := bcell hb2
  have q : ∀ i, w2.cell? ⟨w.heap.size + 1 + 1, i, none⟩ = (#[.int .i64 0, .int .i64 0, .int .i64 0, .int .i64 0, .int .i64 0, .int .i64 0] : Array Value)[i]? := fun i =>
    (hc2 _ _ hz).trans ((hc _ _ (by simp)).trans (Joins.cell_alloc_mark_at _ _ _ (0, 0) _ i (by simp)))
  have q0 := q 0
  have q1 := q 1
  have q2 := q 2
  have q3 := q 3
  have q4 := q 4
  have q5 := q 5
  clear q
  simp at q0 q1 q2 q3 q4 q5
  go_wp2_with fail
  refine bodyPost_ret (v := .tuple #[.agg #[.int .i64 3, .int .i64 7, .int .i64 7, .int .i64 7, .int .i64 0, .int .i64 0], .int .i64 0]) (by simp [results, Try.results16, go_sem, q0, q1, q2, q3, q4, q5]) rfl ⟨rfl, ?_⟩
  have hB2 := (((Below.refl w.heap.size w).alloc (Nat.le_refl _) (.cells #[.int .i64 3, .int .i64 1, .int .i64 2, .int .i64 4, .int .i64 0, .int .i64 0] 38)).alloc (by simp) (.cells #[.int .i64 3, .int .i64 7, .int .i64 7, .int .i64 7, .int .i64 0, .int .i64 0] 38)).alloc (by simp; omega) (.cells #[.int .i64 0, .int .i64 0, .int .i64 0, .int .i64 0, .int .i64 0, .int .i64 0] 38)
  have hB3 := (hB2.trans (Joins.below_le hb1 (by simp; omega))).trans (Joins.below_le hb2 (by omega))
  repeat' (first | (with_reducible exact hB3) | (with_reducible refine Below.setCell ?_ ?_ _) | go_size)

/-- A graph's block that lies there. -/
structure G6 (w : World) (g : Nat) (c : Array Value) : Prop where
  lt : g < w.heap.size
  cell : ∀ i, w.cell? ⟨g, i, none⟩ = c[i]?

theorem G6.new (w : World) (c : Array Value) (t : TypeId) : G6 (w.alloc (.cells c t)) w.heap.size c := ⟨by simp, fun i => World.cell?_alloc_mark w c t (0, 0) i⟩
theorem G6.below {w W : World} {g : Nat} {c : Array Value} (h : G6 w g c) (hb : Below w.heap.size w W) : G6 W g c :=
  ⟨Nat.lt_of_lt_of_le h.lt hb.size, fun i => (hb.cell (p := ⟨g, i, none⟩) h.lt).trans (h.cell i)⟩
theorem G6.alloc {w : World} {g : Nat} {c : Array Value} (h : G6 w g c) (o : Obj) : G6 (w.alloc o) g c := h.below ((Below.refl _ _).alloc (Nat.le_refl _) o)

theorem eq_c (W : World) : (binOp .eql 38 (.agg #[.int .i64 3, .int .i64 7, .int .i64 7, .int .i64 7, .int .i64 0, .int .i64 0]) (.agg #[.int .i64 3, .int .i64 7, .int .i64 7, .int .i64 7, .int .i64 0, .int .i64 0])).run Try.prog W = .ok (.bool true) W := by kernel_rfl
theorem ne_c (W : World) : (binOp .neq 38 (.agg #[.int .i64 3, .int .i64 1, .int .i64 2, .int .i64 4, .int .i64 0, .int .i64 0]) (.agg #[.int .i64 3, .int .i64 7, .int .i64 7, .int .i64 7, .int .i64 0, .int .i64 0])).run Try.prog W = .ok (.bool true) W := by kernel_rfl

set_option maxHeartbeats 1000000 in
theorem awake_c (w : World) :
    Calls Try.prog 4 #[] w fun e w' => e = .returned (.bool true) ∧ Below w.heap.size w w' := by
  have heq := eq_c
  have hne := ne_c
  go_enter Try.func4, Try.ntmps4
  go_wp2_with fail
  refine (of_c w.heap.size _ (World.cell?_alloc_mark w _ _ (0, 0) 0) (World.cell?_alloc_mark w _ _ (0, 0) 1)).mono ?_
  rintro e w' ⟨rfl, rfl⟩
  go_wp2_with fail
  refine (silent_c _).mono ?_
  rintro e w1 ⟨rfl, hb1⟩
  have S1 := G6.new w1 #[.int .i64 3, .int .i64 1, .int .i64 2, .int .i64 4, .int .i64 0, .int .i64 0] 38
  have B1 := fresh_below hb1
  go_wp2_with fail
  refine (complete_c _).mono ?_
  rintro e w2 ⟨rfl, hb2⟩
  have S2 := (S1.below hb2).alloc (.cells #[.int .i64 3, .int .i64 7, .int .i64 7, .int .i64 7, .int .i64 0, .int .i64 0] 38)
  have F2 := G6.new w2 #[.int .i64 3, .int .i64 7, .int .i64 7, .int .i64 7, .int .i64 0, .int .i64 0] 38
  have B2 := B1.trans (Joins.below_le (fresh_below hb2) B1.size)
  have x := S1.below hb2
  have x0 := x.cell 0
  have x1 := x.cell 1
  have x2 := x.cell 2
  have x3 := x.cell 3
  have x4 := x.cell 4
  have x5 := x.cell 5
  simp at x0 x1 x2 x3 x4 x5
  have hz2 : w1.heap.size < w2.heap.size := x.lt
  go_wp2_with fail
  refine (compose_c _).mono ?_
  rintro e w3 ⟨rfl, hb3⟩
  have S3 := ((S2.below hb3).alloc (.cells #[.int .i64 3, .int .i64 7, .int .i64 7, .int .i64 7, .int .i64 0, .int .i64 0] 38))
  have F3 := ((F2.below hb3).alloc (.cells #[.int .i64 3, .int .i64 7, .int .i64 7, .int .i64 7, .int .i64 0, .int .i64 0] 38))
  have P3 := G6.new w3 #[.int .i64 3, .int .i64 7, .int .i64 7, .int .i64 7, .int .i64 0, .int .i64 0] 38
  have B3 := B2.trans (Joins.below_le (fresh_below hb3) B2.size)
  go_wp2_with fail
  have B4 : Below w.heap.size w (((w3.alloc (.cells #[.int .i64 3, .int .i64 7, .int .i64 7, .int .i64 7, .int .i64 0, .int .i64 0] 38)).alloc (.cells #[.int .i64 0, .int .i64 0, .int .i64 1] 3)).alloc (.cells #[.int .i64 0, .int .i64 1, .int .i64 1] 3)) := ((B3.alloc B3.size _).alloc (by have := B3.size; simp; omega) _).alloc (by have := B3.size; simp; omega) _
  refine (pmeet_c (w3.heap.size + 1) (w3.heap.size + 1 + 1) _ ((Has3.at_ (by simp) 0 0 1 _).alloc _) (Has3.at_ (by simp) 0 1 1 _)).mono ?_
  rintro e w4 ⟨r, rfl, hb4, h4⟩
  have s := ((S3.alloc (.cells #[.int .i64 0, .int .i64 0, .int .i64 1] 3)).alloc (.cells #[.int .i64 0, .int .i64 1, .int .i64 1] 3)).below hb4
  have s0 := s.cell 0
  have s1 := s.cell 1
  have s2 := s.cell 2
  have s3 := s.cell 3
  have s4 := s.cell 4
  have s5 := s.cell 5
  simp at s0 s1 s2 s3 s4 s5
  have f := ((F3.alloc (.cells #[.int .i64 0, .int .i64 0, .int .i64 1] 3)).alloc (.cells #[.int .i64 0, .int .i64 1, .int .i64 1] 3)).below hb4
  have f0 := f.cell 0
  have f1 := f.cell 1
  have f2 := f.cell 2
  have f3 := f.cell 3
  have f4 := f.cell 4
  have f5 := f.cell 5
  simp at f0 f1 f2 f3 f4 f5
  have p := ((P3.alloc (.cells #[.int .i64 0, .int .i64 0, .int .i64 1] 3)).alloc (.cells #[.int .i64 0, .int .i64 1, .int .i64 1] 3)).below hb4
  have p0 := p.cell 0
  have p1 := p.cell 1
  have p2 := p.cell 2
  have p3 := p.cell 3
  have p4 := p.cell 4
  have p5 := p.cell 5
  simp at p0 p1 p2 p3 p4 p5
  have B5 := B4.trans (Joins.below_le hb4 B4.size)
  have H4 := Lib.hid h4
  clear h4 hb1 hb2 hb3 hb4 S1 S2 F2 S3 F3 P3 B1 B2 B3 B4 x0 x1 x2 x3 x4 x5 x
  go_wp2_with fail
  have e1 := H4.out.alloc (.cells #[.int .i64 0, .int .i64 1, .int .i64 2] 3)
  have e2 := Has3.new w4 0 1 2 3
  refine (equal_c r w4.heap.size _ e1.c0 e1.c1 e1.c2 e2.c0 e2.c1 e2.c2).mono ?_
  rintro e w5 ⟨rfl, n5, rfl⟩
  go_wp2_with fail
  go_ret
  exact ⟨rfl, below_dn _ (B5.alloc B5.size _)⟩
end Go.Proofs.Ytokjdlljhloflaa.Gra
