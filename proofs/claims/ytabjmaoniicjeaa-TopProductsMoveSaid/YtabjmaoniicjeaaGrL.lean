/- The check of several graphs before a theorem on them: it returns true exactly if all are well-formed and have the same number of processes. -/
import Derived.Test.YtabjmaoniicjeaaGrB
import Derived.Test.YtabjmaoniicjeaaGrA
import Derived.Test.YtabjmaoniicjeaaGrC
import Derived.Test.YtabjmaoniicjeaaGrD
import Derived.Test.YtabjmaoniicjeaaGrE
import Derived.Test.YtabjmaoniicjeaaGrF
import Derived.Test.YtabjmaoniicjeaaGrG
import Derived.Test.YtabjmaoniicjeaaGrJ
import Derived.Test.YtabjmaoniicjeaaGrK
import Derived.Deep.DeepCutAuto
import Derived.Deep.RegionWith
import Derived.Test.YtabjmaoniicjeaaGrM
import Derived.WalkKit
import Derived.WalkSpells
import Derived.WalkLawsBesides
import Derived.Handy
import Derived.Deep.QuietTactic
import Derived.BigQuiet
import Derived.Outline
import Derived.Laws.BitsAllLaws
import Derived.IntWalk
import Derived.Lib.SmallJoins
import Derived.Lib.Hide
namespace Go.Proofs.Ytabjmaoniicjeaa
open Go.RowKit






/-- The numbers of a graph lie in the range of Go's int. -/
def Rng (x : Nat → Int) : Prop := ∀ p, p < 5 → -9223372036854775808 ≤ x p ∧ x p ≤ 9223372036854775807

theorem rcheck_yes (n : Int) (x : Nat → Int) (hb : Rng x) (h : WFI n x) (w : World) :
    Calls Try.prog 20 #[.agg #[.int .i64 n, .int .i64 (x 0), .int .i64 (x 1), .int .i64 (x 2), .int .i64 (x 3), .int .i64 (x 4)]] w fun e w' => e = .returned (.int .i64 0) ∧ Below w.heap.size w w' :=
  (rcheck_any n x w hb).mono fun e w' ⟨r, he, hr, _, _, hB⟩ => ⟨by rw [he, hr.2 h], hB⟩

theorem rcheck_two (n : Int) (x : Nat → Int) (hb : Rng x) (h : Out n x) (w : World) :
    Calls Try.prog 20 #[.agg #[.int .i64 n, .int .i64 (x 0), .int .i64 (x 1), .int .i64 (x 2), .int .i64 (x 3), .int .i64 (x 4)]] w fun e w' => e = .returned (.int .i64 2) ∧ Below w.heap.size w w' :=
  (rcheck_any n x w hb).mono fun e w' ⟨r, he, _, hr, _, hB⟩ => ⟨by rw [he, hr h], hB⟩

theorem rcheck_three (n : Int) (x : Nat → Int) (hb : Rng x) (h : ¬ WFI n x) (h' : ¬ Out n x) (w : World) :
    Calls Try.prog 20 #[.agg #[.int .i64 n, .int .i64 (x 0), .int .i64 (x 1), .int .i64 (x 2), .int .i64 (x 3), .int .i64 (x 4)]] w fun e w' => e = .returned (.int .i64 3) ∧ Below w.heap.size w w' :=
  (rcheck_any n x w hb).mono fun e w' ⟨r, he, _, _, hr, hB⟩ => ⟨by rw [he, hr h h'], hB⟩

theorem undrew {B : Nat} {w w' : World} (h : Below B w.drew w') : Below B w w' := ⟨h.os, h.tape, h.output, h.size, h.block⟩

/-- The three graphs are well-formed, and have the same number of processes. -/
structure AllOk (na nb nc : Int) (a b c : Nat → Int) : Prop where
  wa : WFI na a
  wb : WFI nb b
  wc : WFI nc c
  eb : nb = na
  ec : nc = na

/-- The answer is whether P holds, and nothing that was there has changed. -/
def Ans (P : Prop) (w : World) (e : Ending) (w' : World) : Prop := ∃ r : Bool, e = .returned (.bool r) ∧ (r = true ↔ P) ∧ Below w.heap.size w w'

theorem ans_no {P : Prop} {w w' : World} {e : Ending} (he : e = .returned (.bool false)) (h : ¬ P) (hB : Below w.heap.size w w') : Ans P w e w' := ⟨false, he, ⟨(fun h => by cases h), (fun hh => absurd hh h)⟩, hB⟩
theorem ans_yes {P : Prop} {w w' : World} {e : Ending} (he : e = .returned (.bool true)) (h : P) (hB : Below w.heap.size w w') : Ans P w e w' := ⟨true, he, ⟨(fun _ => h), (fun _ => rfl)⟩, hB⟩

set_option maxHeartbeats 4000000 in
theorem graphs_any (na nb nc : Int) (a b c : Nat → Int) (ha : Rng a) (hb : Rng b) (hc : Rng c) (g : Nat) (w : World) (hg : g < w.heap.size)
    (hG : ∀ i, w.cell? ⟨g, i, none⟩ = (#[.int .i64 na, .int .i64 (a 0), .int .i64 (a 1), .int .i64 (a 2), .int .i64 (a 3), .int .i64 (a 4), .int .i64 nb, .int .i64 (b 0), .int .i64 (b 1), .int .i64 (b 2), .int .i64 (b 3), .int .i64 (b 4), .int .i64 nc, .int .i64 (c 0), .int .i64 (c 1), .int .i64 (c 2), .int .i64 (c 3), .int .i64 (c 4)] : Array Value)[i]?) :
    Calls Try.prog 6 #[.slice (some ⟨g, 0, none⟩) 3 3] w
      fun e w' => Ans (AllOk na nb nc a b c) w e w' := by
  have g0 := hG 0
  have g1 := hG 1
  have g2 := hG 2
  have g3 := hG 3
  have g4 := hG 4
  have g5 := hG 5
  have g6 := hG 6
  have g7 := hG 7
  have g8 := hG 8
  have g9 := hG 9
  have g10 := hG 10
  have g11 := hG 11
  have g12 := hG 12
  have g13 := hG 13
  have g14 := hG 14
  have g15 := hG 15
  have g16 := hG 16
  have g17 := hG 17
  simp at g0 g1 g2 g3 g4 g5 g6 g7 g8 g9 g10 g11 g12 g13 g14 g15 g16 g17
  clear hG
  have Ha := Lib.hid ha
  have Hb := Lib.hid hb
  have Hc := Lib.hid hc
  clear ha hb hc
  go_enter Try.func6, Try.ntmps6
  go_wp2_with fail
  refine wp_loop_rounds 4 ?_
  have hB0 : Below w.heap.size w w := Below.refl _ _
  rw [rounds_succ]
  go_wp2_with fail
  have z : ∀ V : World, Below (w.alloc (.cells #[.int .i64 na, .int .i64 (a 0), .int .i64 (a 1), .int .i64 (a 2), .int .i64 (a 3), .int .i64 (a 4)] 24)).heap.size (w.alloc (.cells #[.int .i64 na, .int .i64 (a 0), .int .i64 (a 1), .int .i64 (a 2), .int .i64 (a 3), .int .i64 (a 4)] 24)) V → V.cell? ⟨w.heap.size, 0, none⟩ = some (.int .i64 na) ∧ V.cell? ⟨g, 0, none⟩ = some (.int .i64 na) := fun V hV =>
    ⟨(hV.cell (p := ⟨w.heap.size, 0, none⟩) (by simp)).trans (World.cell?_alloc_mark w _ _ (0, 0) 0), (hV.cell (p := ⟨g, 0, none⟩) (by simp; omega)).trans ((World.cell?_alloc_lt w _ ⟨g, 0, none⟩ hg).trans g0)⟩
  have Z := Lib.hid z
  clear z
  by_cases ha : WFI na a
  rotate_left
  · by_cases oa : Out na a
    · have Pa := Lib.hid ha
      have Oa := Lib.hid oa
      clear ha oa
      go_cut [22] (fun s wx => s = .bool true ∧ Below (w.alloc (.cells #[.int .i64 na, .int .i64 (a 0), .int .i64 (a 1), .int .i64 (a 2), .int .i64 (a 3), .int .i64 (a 4)] 24)).heap.size (w.alloc (.cells #[.int .i64 na, .int .i64 (a 0), .int .i64 (a 1), .int .i64 (a 2), .int .i64 (a 3), .int .i64 (a 4)] 24)) wx)
      case first =>
        first | (go_region_with (go_at_call 20; refine (rcheck_two na a Ha.out Oa.out _).mono ?_; rintro e w1 ⟨rfl, hb1⟩; have hb2 := undrew hb1; obtain ⟨z0, z1⟩ := Z.out w1 hb2)) | fail
        all_goals
          go_wp2_with fail
          go_meet
          exact ⟨rfl, hb2⟩
      case rest =>
        obtain ⟨rfl, hb1⟩ := hcut
        go_wp2_with fail
        go_ret
        exact ans_no rfl (fun hh => absurd hh.wa Pa.out) (hB0.trans (Joins.below_le (fresh_below hb1) hB0.size))
    · have Pa := Lib.hid ha
      have Oa := Lib.hid oa
      clear ha oa
      go_cut [22] (fun s wx => s = .bool true ∧ Below (w.alloc (.cells #[.int .i64 na, .int .i64 (a 0), .int .i64 (a 1), .int .i64 (a 2), .int .i64 (a 3), .int .i64 (a 4)] 24)).heap.size (w.alloc (.cells #[.int .i64 na, .int .i64 (a 0), .int .i64 (a 1), .int .i64 (a 2), .int .i64 (a 3), .int .i64 (a 4)] 24)) wx)
      case first =>
        first | (go_region_with (go_at_call 20; refine (rcheck_three na a Ha.out Pa.out Oa.out _).mono ?_; rintro e w1 ⟨rfl, hb1⟩; have hb2 := undrew hb1; obtain ⟨z0, z1⟩ := Z.out w1 hb2)) | fail
        all_goals
          go_wp2_with fail
          go_meet
          exact ⟨rfl, hb2⟩
      case rest =>
        obtain ⟨rfl, hb1⟩ := hcut
        go_wp2_with fail
        go_ret
        exact ans_no rfl (fun hh => absurd hh.wa Pa.out) (hB0.trans (Joins.below_le (fresh_below hb1) hB0.size))
  have Pa := Lib.hid ha
  clear ha
  go_cut [22] (fun s wx => s = .bool false ∧ Below (w.alloc (.cells #[.int .i64 na, .int .i64 (a 0), .int .i64 (a 1), .int .i64 (a 2), .int .i64 (a 3), .int .i64 (a 4)] 24)).heap.size (w.alloc (.cells #[.int .i64 na, .int .i64 (a 0), .int .i64 (a 1), .int .i64 (a 2), .int .i64 (a 3), .int .i64 (a 4)] 24)) wx)
  case first =>
    first | (go_region_with (go_at_call 20; refine (rcheck_yes _ a Ha.out Pa.out _).mono ?_; rintro e w1 ⟨rfl, hb1⟩; have hb2 := undrew hb1; obtain ⟨z0, z1⟩ := Z.out w1 hb2)) | fail
    all_goals
      go_wp2_with fail
      go_meet
      exact ⟨rfl, hb2⟩
  case rest =>
    obtain ⟨rfl, hb1⟩ := hcut
    obtain ⟨v1, rfl⟩ : ∃ v : World, v = wc := ⟨_, rfl⟩
    have hb10 := fresh_below hb1
    have hB1 := hB0.trans (Joins.below_le hb10 hB0.size)
    replace g0 := (hb10.cell (p := ⟨g, 0, none⟩) hg).trans g0
    replace g6 := (hb10.cell (p := ⟨g, 6, none⟩) hg).trans g6
    replace g7 := (hb10.cell (p := ⟨g, 7, none⟩) hg).trans g7
    replace g8 := (hb10.cell (p := ⟨g, 8, none⟩) hg).trans g8
    replace g9 := (hb10.cell (p := ⟨g, 9, none⟩) hg).trans g9
    replace g10 := (hb10.cell (p := ⟨g, 10, none⟩) hg).trans g10
    replace g11 := (hb10.cell (p := ⟨g, 11, none⟩) hg).trans g11
    replace g12 := (hb10.cell (p := ⟨g, 12, none⟩) hg).trans g12
    replace g13 := (hb10.cell (p := ⟨g, 13, none⟩) hg).trans g13
    replace g14 := (hb10.cell (p := ⟨g, 14, none⟩) hg).trans g14
    replace g15 := (hb10.cell (p := ⟨g, 15, none⟩) hg).trans g15
    replace g16 := (hb10.cell (p := ⟨g, 16, none⟩) hg).trans g16
    replace g17 := (hb10.cell (p := ⟨g, 17, none⟩) hg).trans g17
    replace hg := Nat.lt_of_lt_of_le hg hb10.size
    clear Z hb1 hb10
    go_wp2_with fail
    rw [rounds_succ]
    go_wp2_with fail
    have z : ∀ V : World, Below (v1.alloc (.cells #[.int .i64 nb, .int .i64 (b 0), .int .i64 (b 1), .int .i64 (b 2), .int .i64 (b 3), .int .i64 (b 4)] 24)).heap.size (v1.alloc (.cells #[.int .i64 nb, .int .i64 (b 0), .int .i64 (b 1), .int .i64 (b 2), .int .i64 (b 3), .int .i64 (b 4)] 24)) V → V.cell? ⟨v1.heap.size, 0, none⟩ = some (.int .i64 nb) ∧ V.cell? ⟨g, 0, none⟩ = some (.int .i64 na) := fun V hV =>
      ⟨(hV.cell (p := ⟨v1.heap.size, 0, none⟩) (by simp)).trans (World.cell?_alloc_mark v1 _ _ (0, 0) 0), (hV.cell (p := ⟨g, 0, none⟩) (by simp; omega)).trans ((World.cell?_alloc_lt v1 _ ⟨g, 0, none⟩ hg).trans g0)⟩
    have Z := Lib.hid z
    clear z
    by_cases hb : WFI nb b
    rotate_left
    · by_cases ob : Out nb b
      · have Pb := Lib.hid hb
        have Ob := Lib.hid ob
        clear hb ob
        go_cut [22] (fun s wx => s = .bool true ∧ Below (v1.alloc (.cells #[.int .i64 nb, .int .i64 (b 0), .int .i64 (b 1), .int .i64 (b 2), .int .i64 (b 3), .int .i64 (b 4)] 24)).heap.size (v1.alloc (.cells #[.int .i64 nb, .int .i64 (b 0), .int .i64 (b 1), .int .i64 (b 2), .int .i64 (b 3), .int .i64 (b 4)] 24)) wx)
        case first =>
          first | (go_region_with (go_at_call 20; refine (rcheck_two nb b Hb.out Ob.out _).mono ?_; rintro e w1 ⟨rfl, hb1⟩; have hb2 := undrew hb1; obtain ⟨z0, z1⟩ := Z.out w1 hb2)) | fail
          all_goals
            go_wp2_with fail
            go_meet
            exact ⟨rfl, hb2⟩
        case rest =>
          obtain ⟨rfl, hb1⟩ := hcut
          go_wp2_with fail
          go_ret
          exact ans_no rfl (fun hh => absurd hh.wb Pb.out) (hB1.trans (Joins.below_le (fresh_below hb1) hB1.size))
      · have Pb := Lib.hid hb
        have Ob := Lib.hid ob
        clear hb ob
        go_cut [22] (fun s wx => s = .bool true ∧ Below (v1.alloc (.cells #[.int .i64 nb, .int .i64 (b 0), .int .i64 (b 1), .int .i64 (b 2), .int .i64 (b 3), .int .i64 (b 4)] 24)).heap.size (v1.alloc (.cells #[.int .i64 nb, .int .i64 (b 0), .int .i64 (b 1), .int .i64 (b 2), .int .i64 (b 3), .int .i64 (b 4)] 24)) wx)
        case first =>
          first | (go_region_with (go_at_call 20; refine (rcheck_three nb b Hb.out Pb.out Ob.out _).mono ?_; rintro e w1 ⟨rfl, hb1⟩; have hb2 := undrew hb1; obtain ⟨z0, z1⟩ := Z.out w1 hb2)) | fail
          all_goals
            go_wp2_with fail
            go_meet
            exact ⟨rfl, hb2⟩
        case rest =>
          obtain ⟨rfl, hb1⟩ := hcut
          go_wp2_with fail
          go_ret
          exact ans_no rfl (fun hh => absurd hh.wb Pb.out) (hB1.trans (Joins.below_le (fresh_below hb1) hB1.size))
    have Pb := Lib.hid hb
    clear hb
    by_cases eb : nb = na
    rotate_left
    · have neb : (nb != na) = true := by simpa using eb
      have Eb := Lib.hid eb
      clear eb
      go_cut [22] (fun s wx => s = .bool true ∧ Below (v1.alloc (.cells #[.int .i64 nb, .int .i64 (b 0), .int .i64 (b 1), .int .i64 (b 2), .int .i64 (b 3), .int .i64 (b 4)] 24)).heap.size (v1.alloc (.cells #[.int .i64 nb, .int .i64 (b 0), .int .i64 (b 1), .int .i64 (b 2), .int .i64 (b 3), .int .i64 (b 4)] 24)) wx)
      case first =>
        first | (go_region_with (go_at_call 20; refine (rcheck_yes nb b Hb.out Pb.out _).mono ?_; rintro e w1 ⟨rfl, hb1⟩; have hb2 := undrew hb1; obtain ⟨z0, z1⟩ := Z.out w1 hb2)) | fail
        all_goals
          go_wp2_with fail
          go_meet
          exact ⟨rfl, hb2⟩
      case rest =>
        obtain ⟨rfl, hb1⟩ := hcut
        go_wp2_with fail
        go_ret
        exact ans_no rfl (fun hh => absurd hh.eb Eb.out) (hB1.trans (Joins.below_le (fresh_below hb1) hB1.size))
    have sb := eb.symm
    clear eb
    subst sb
    go_cut [22] (fun s wx => s = .bool false ∧ Below (v1.alloc (.cells #[.int .i64 na, .int .i64 (b 0), .int .i64 (b 1), .int .i64 (b 2), .int .i64 (b 3), .int .i64 (b 4)] 24)).heap.size (v1.alloc (.cells #[.int .i64 na, .int .i64 (b 0), .int .i64 (b 1), .int .i64 (b 2), .int .i64 (b 3), .int .i64 (b 4)] 24)) wx)
    case first =>
      first | (go_region_with (go_at_call 20; refine (rcheck_yes _ b Hb.out Pb.out _).mono ?_; rintro e w1 ⟨rfl, hb1⟩; have hb2 := undrew hb1; obtain ⟨z0, z1⟩ := Z.out w1 hb2)) | fail
      all_goals
        go_wp2_with fail
        go_meet
        exact ⟨rfl, hb2⟩
    case rest =>
      obtain ⟨rfl, hb1⟩ := hcut
      obtain ⟨v2, rfl⟩ : ∃ v : World, v = wc := ⟨_, rfl⟩
      have hb11 := fresh_below hb1
      have hB2 := hB1.trans (Joins.below_le hb11 hB1.size)
      replace g0 := (hb11.cell (p := ⟨g, 0, none⟩) hg).trans g0
      replace g12 := (hb11.cell (p := ⟨g, 12, none⟩) hg).trans g12
      replace g13 := (hb11.cell (p := ⟨g, 13, none⟩) hg).trans g13
      replace g14 := (hb11.cell (p := ⟨g, 14, none⟩) hg).trans g14
      replace g15 := (hb11.cell (p := ⟨g, 15, none⟩) hg).trans g15
      replace g16 := (hb11.cell (p := ⟨g, 16, none⟩) hg).trans g16
      replace g17 := (hb11.cell (p := ⟨g, 17, none⟩) hg).trans g17
      replace hg := Nat.lt_of_lt_of_le hg hb11.size
      clear Z hb1 hb11
      go_wp2_with fail
      rw [rounds_succ]
      go_wp2_with fail
      have z : ∀ V : World, Below (v2.alloc (.cells #[.int .i64 nc, .int .i64 (c 0), .int .i64 (c 1), .int .i64 (c 2), .int .i64 (c 3), .int .i64 (c 4)] 24)).heap.size (v2.alloc (.cells #[.int .i64 nc, .int .i64 (c 0), .int .i64 (c 1), .int .i64 (c 2), .int .i64 (c 3), .int .i64 (c 4)] 24)) V → V.cell? ⟨v2.heap.size, 0, none⟩ = some (.int .i64 nc) ∧ V.cell? ⟨g, 0, none⟩ = some (.int .i64 na) := fun V hV =>
        ⟨(hV.cell (p := ⟨v2.heap.size, 0, none⟩) (by simp)).trans (World.cell?_alloc_mark v2 _ _ (0, 0) 0), (hV.cell (p := ⟨g, 0, none⟩) (by simp; omega)).trans ((World.cell?_alloc_lt v2 _ ⟨g, 0, none⟩ hg).trans g0)⟩
      have Z := Lib.hid z
      clear z
      by_cases hc : WFI nc c
      rotate_left
      · by_cases oc : Out nc c
        · have Pc := Lib.hid hc
          have Oc := Lib.hid oc
          clear hc oc
          go_cut [22] (fun s wx => s = .bool true ∧ Below (v2.alloc (.cells #[.int .i64 nc, .int .i64 (c 0), .int .i64 (c 1), .int .i64 (c 2), .int .i64 (c 3), .int .i64 (c 4)] 24)).heap.size (v2.alloc (.cells #[.int .i64 nc, .int .i64 (c 0), .int .i64 (c 1), .int .i64 (c 2), .int .i64 (c 3), .int .i64 (c 4)] 24)) wx)
          case first =>
            first | (go_region_with (go_at_call 20; refine (rcheck_two nc c Hc.out Oc.out _).mono ?_; rintro e w1 ⟨rfl, hb1⟩; have hb2 := undrew hb1; obtain ⟨z0, z1⟩ := Z.out w1 hb2)) | fail
            all_goals
              go_wp2_with fail
              go_meet
              exact ⟨rfl, hb2⟩
          case rest =>
            obtain ⟨rfl, hb1⟩ := hcut
            go_wp2_with fail
            go_ret
            exact ans_no rfl (fun hh => absurd hh.wc Pc.out) (hB2.trans (Joins.below_le (fresh_below hb1) hB2.size))
        · have Pc := Lib.hid hc
          have Oc := Lib.hid oc
          clear hc oc
          go_cut [22] (fun s wx => s = .bool true ∧ Below (v2.alloc (.cells #[.int .i64 nc, .int .i64 (c 0), .int .i64 (c 1), .int .i64 (c 2), .int .i64 (c 3), .int .i64 (c 4)] 24)).heap.size (v2.alloc (.cells #[.int .i64 nc, .int .i64 (c 0), .int .i64 (c 1), .int .i64 (c 2), .int .i64 (c 3), .int .i64 (c 4)] 24)) wx)
          case first =>
            first | (go_region_with (go_at_call 20; refine (rcheck_three nc c Hc.out Pc.out Oc.out _).mono ?_; rintro e w1 ⟨rfl, hb1⟩; have hb2 := undrew hb1; obtain ⟨z0, z1⟩ := Z.out w1 hb2)) | fail
            all_goals
              go_wp2_with fail
              go_meet
              exact ⟨rfl, hb2⟩
          case rest =>
            obtain ⟨rfl, hb1⟩ := hcut
            go_wp2_with fail
            go_ret
            exact ans_no rfl (fun hh => absurd hh.wc Pc.out) (hB2.trans (Joins.below_le (fresh_below hb1) hB2.size))
      have Pc := Lib.hid hc
      clear hc
      by_cases ec : nc = na
      rotate_left
      · have nec : (nc != na) = true := by simpa using ec
        have Ec := Lib.hid ec
        clear ec
        go_cut [22] (fun s wx => s = .bool true ∧ Below (v2.alloc (.cells #[.int .i64 nc, .int .i64 (c 0), .int .i64 (c 1), .int .i64 (c 2), .int .i64 (c 3), .int .i64 (c 4)] 24)).heap.size (v2.alloc (.cells #[.int .i64 nc, .int .i64 (c 0), .int .i64 (c 1), .int .i64 (c 2), .int .i64 (c 3), .int .i64 (c 4)] 24)) wx)
        case first =>
          first | (go_region_with (go_at_call 20; refine (rcheck_yes nc c Hc.out Pc.out _).mono ?_; rintro e w1 ⟨rfl, hb1⟩; have hb2 := undrew hb1; obtain ⟨z0, z1⟩ := Z.out w1 hb2)) | fail
          all_goals
            go_wp2_with fail
            go_meet
            exact ⟨rfl, hb2⟩
        case rest =>
          obtain ⟨rfl, hb1⟩ := hcut
          go_wp2_with fail
          go_ret
          exact ans_no rfl (fun hh => absurd hh.ec Ec.out) (hB2.trans (Joins.below_le (fresh_below hb1) hB2.size))
      have sc := ec.symm
      clear ec
      subst sc
      go_cut [22] (fun s wx => s = .bool false ∧ Below (v2.alloc (.cells #[.int .i64 na, .int .i64 (c 0), .int .i64 (c 1), .int .i64 (c 2), .int .i64 (c 3), .int .i64 (c 4)] 24)).heap.size (v2.alloc (.cells #[.int .i64 na, .int .i64 (c 0), .int .i64 (c 1), .int .i64 (c 2), .int .i64 (c 3), .int .i64 (c 4)] 24)) wx)
      case first =>
        first | (go_region_with (go_at_call 20; refine (rcheck_yes _ c Hc.out Pc.out _).mono ?_; rintro e w1 ⟨rfl, hb1⟩; have hb2 := undrew hb1; obtain ⟨z0, z1⟩ := Z.out w1 hb2)) | fail
        all_goals
          go_wp2_with fail
          go_meet
          exact ⟨rfl, hb2⟩
      case rest =>
        obtain ⟨rfl, hb1⟩ := hcut
        obtain ⟨v3, rfl⟩ : ∃ v : World, v = wc := ⟨_, rfl⟩
        have hb12 := fresh_below hb1
        have hB3 := hB2.trans (Joins.below_le hb12 hB2.size)
        replace g0 := (hb12.cell (p := ⟨g, 0, none⟩) hg).trans g0
        replace hg := Nat.lt_of_lt_of_le hg hb12.size
        clear Z hb1 hb12
        go_wp2_with fail
        rw [rounds_succ]
        go_wp2_with fail
        go_ret
        exact ans_yes rfl ⟨Pa.out, Pb.out, Pc.out, rfl, rfl⟩ hB3
end Go.Proofs.Ytabjmaoniicjeaa
