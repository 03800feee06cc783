/- slices.Contains and slices.IsSortedFunc on lists of graphs. -/
import Derived.Test.YtacnhklhimogkaaDoorGoM
import Derived.Test.YtacnhklhimogkaaDoorCkA
import Derived.Deep.DeepCutAuto
import Derived.Deep.RegionHeld3
import Derived.Test.YtacnhklhimogkaaDoorGcB
import Derived.Test.YtacnhklhimogkaaDoorGrN
import Derived.Test.YtacnhklhimogkaaDoorPmA
import Derived.Test.YtacnhklhimogkaaDoorPmM
import Derived.Test.YtacnhklhimogkaaDoorPmD
import Derived.Test.YtacnhklhimogkaaDoorGrR
import Derived.Test.YtacnhklhimogkaaDoorTb
import Derived.LoopTactic
import Derived.Deep.RegionWith
import Derived.WalkKit
import Derived.WalkSpells
import Derived.WalkLawsBesides
import Derived.Handy
import Derived.Deep.QuietTactic
import Derived.BigQuiet
import Derived.Outline
import Derived.Laws.BitsAllLaws
import Derived.IntWalk
import Derived.Lib.SmallJoins
import Derived.Lib.Hide
namespace Go.Proofs.YtacnhklhimogkaaDoor
set_option linter.unusedVariables false
set_option linter.unusedSimpArgs false
open Go.RowKit

set_option maxHeartbeats 2000000 in
theorem gindex_ok (n : Nat) (a : Nat → Nat) (l : List (Nat → Nat)) (hl : l.length ≤ 1000000) (k : Nat) (hk : k < l.length) (hka : ∀ p, p < 5 → l[k] p = a p) (v : Value) (w : World) (hv : Lies w n v l) :
    Calls Tryd.prog 60 #[v, gv n a] w fun e w' => (∃ i : Nat, i < l.length ∧ e = .returned (.int .i64 (i : Int))) ∧ Below w.heap.size w w' := by
  rcases hv.form with ⟨rfl, h0⟩ | ⟨g, cg, rfl, hg, hcg, HG⟩
  · omega
  have HG' := Lib.hid HG
  have Hka := Lib.hid hka
  clear HG hv hka
  go_enter Tryd.func60, Tryd.ntmps60
  go_wp2_with fail
  obtain ⟨W, hW⟩ : ∃ W, w.alloc (.cells #[.int .i64 (n : Int), .int .i64 (a 0 : Int), .int .i64 (a 1 : Int), .int .i64 (a 2 : Int), .int .i64 (a 3 : Int), .int .i64 (a 4 : Int)] 24) = W := ⟨_, rfl⟩
  rw [hW]
  have XA : Box W w.heap.size #[.int .i64 (n : Int), .int .i64 (a 0 : Int), .int .i64 (a 1 : Int), .int .i64 (a 2 : Int), .int .i64 (a 3 : Int), .int .i64 (a 4 : Int)] 24 := hW ▸ Box.new w _ _
  have B1 : Below w.heap.size w W := hW ▸ (Below.refl _ _).alloc (Nat.le_refl _) _
  clear hW
  go_loopw [8] (fun j wr => ∃ i : Nat, i ≤ k ∧ j = .int .i64 i ∧ ∃ d, wr = W.drewN d) (fun j _ => l.length - (intOf j).toNat)
  case atStart => exact ⟨0, by omega, rfl, 0, rfl⟩
  case round =>
    obtain ⟨i, hi, rfl, d, rfl⟩ := hrel
    have hb : Below w.heap.size w (W.drewN d) := below_dn d B1
    have hlt : i < l.length := by omega
    have c0 := HG'.out _ i 0 hb hlt (by omega)
    have c1 := HG'.out _ i 1 hb hlt (by omega)
    have c2 := HG'.out _ i 2 hb hlt (by omega)
    have c3 := HG'.out _ i 3 hb hlt (by omega)
    have c4 := HG'.out _ i 4 hb hlt (by omega)
    have c5 := HG'.out _ i 5 hb hlt (by omega)
    have hkk : i = k → ∀ p, p < 5 → l[i] p = a p := by rintro rfl; exact Hka.out
    have Hkk := Lib.hid hkk
    obtain ⟨y, hy⟩ : ∃ y, l[i] = y := ⟨_, rfl⟩
    rw [hy] at c0 c1 c2 c3 c4 c5 Hkk
    simp [gcl] at c0 c1 c2 c3 c4 c5
    have heq := fun w => run_eql_g n n (a 0) (a 1) (a 2) (a 3) (a 4) (y 0) (y 1) (y 2) (y 3) (y 4) w
    have Hg : Hid (i = k → geq n n (a 0) (a 1) (a 2) (a 3) (a 4) (y 0) (y 1) (y 2) (y 3) (y 4) = true) := Lib.hid (fun e => by
      have h := Hkk.out e
      exact geq_self _ _ _ _ _ _ _ _ _ _ _ (h 0 (by omega)).symm (h 1 (by omega)).symm (h 2 (by omega)).symm (h 3 (by omega)).symm (h 4 (by omega)).symm)
    obtain ⟨r, hr⟩ : ∃ r, geq n n (a 0) (a 1) (a 2) (a 3) (a 4) (y 0) (y 1) (y 2) (y 3) (y 4) = r := ⟨_, rfl⟩
    rw [hr] at Hg
    simp only [hr] at heq
    obtain ⟨⟨z0, z1, z2, z3, z4, z5⟩, _⟩ := XA.six
    clear hr hy hkk Hkk hb
    cases r with
    | true =>
      go_wp2_with fail
      go_quiet (fail)
      go_wp2_with fail
      go_ret
      exact ⟨⟨i, hlt, rfl⟩, by first | exact below_dn _ B1 | exact below_dn _ (below_dn _ B1)⟩
    | false =>
      have hik : i ≠ k := fun e => by have := Hg.out e; cases this
      go_wp2_with fail
      go_quiet (fail)
      go_wp2_with fail
      go_roundw
      case rel => exact ⟨i + 1, by omega, by go_num, _, by first | rfl | (simp only [World.drewN_drewN]; rfl)⟩
      case measure => simp [intOf]; omega

set_option maxHeartbeats 1000000 in
theorem gcontains_ok (n : Nat) (a : Nat → Nat) (l : List (Nat → Nat)) (hl : l.length ≤ 1000000) (k : Nat) (hk : k < l.length) (hka : ∀ p, p < 5 → l[k] p = a p) (v : Value) (w : World) (hv : Lies w n v l) :
    Calls Tryd.prog 35 #[v, gv n a] w fun e w' => e = .returned (.bool true) ∧ Below w.heap.size w w' := by
  have HI := Lib.hid (fun w hv => gindex_ok n a l hl k hk hka v w hv)
  have Hv := Lib.hid (hv.below (W := w.alloc (.cells #[.int .i64 (n : Int), .int .i64 (a 0 : Int), .int .i64 (a 1 : Int), .int .i64 (a 2 : Int), .int .i64 (a 3 : Int), .int .i64 (a 4 : Int)] 24)) ((Below.refl _ _).alloc (Nat.le_refl _) _))
  clear hka hv
  go_enter Tryd.func35, Tryd.ntmps35
  go_wp2_with fail
  refine (HI.out _ Hv.out).mono ?_
  rintro e w1 ⟨⟨i, hi, rfl⟩, hb⟩
  have B1 := fresh_below hb
  go_wp2_with fail
  go_ret
  exact ⟨rfl, B1⟩

set_option maxRecDepth 100000 in
set_option maxHeartbeats 4000000 in
theorem gsorted_ok (n : Nat) (l : List (Nat → Nat)) (hl : l.length ≤ 1000000) (hs : ∀ i, (h : i + 1 < l.length) → 0 ≤ gcmp (n : Int) (n : Int) (fun p => ((l[i + 1] p : Nat) : Int)) (fun p => ((l[i] p : Nat) : Int))) (v : Value) (w : World) (hv : Lies w n v l) (h1 : 1 ≤ l.length) :
    Calls Tryd.prog 36 #[v, .func (.func 14) #[] #[]] w fun e w' => e = .returned (.bool true) ∧ Below w.heap.size w w' := by
  rcases hv.form with ⟨rfl, h0⟩ | ⟨g, cg, rfl, hg, hcg, HG⟩
  · omega
  have HG' := Lib.hid HG
  have Hs := Lib.hid hs
  have hK : ∀ args w, (callFunc 14 args).run Tryd.prog w = .ok (.enter 14 args) w := fun args w => by kernel_rfl
  clear HG hv hs
  go_enter Tryd.func36, Tryd.ntmps36
  go_wp2_with fail
  go_loopw [5] (fun j wr => ∃ i : Nat, i < l.length ∧ j = .int .i64 i ∧ Below w.heap.size w wr) (fun j _ => (intOf j).toNat)
  case atStart => exact ⟨l.length - 1, by omega, by rw [Int.natCast_sub h1]; rfl, Below.refl _ _⟩
  case round =>
    obtain ⟨i, hi, rfl, hB⟩ := hrel
    have HB := Lib.hid hB
    clear hB
    by_cases hi0 : i = 0
    · subst hi0
      go_wp2_with fail
      go_ret
      exact ⟨rfl, HB.out⟩
    · obtain ⟨k, hk⟩ : ∃ k, i = k + 1 := ⟨i - 1, by omega⟩
      have hkl : k < l.length := by omega
      have hcmp := Hs.out k (by omega)
      have hsame : l[k + 1]'(by omega) = l[i] := by congr 1; omega
      rw [hsame] at hcmp
      have HC : Hid (∀ V j, Below wr.heap.size wr V → j < 6 → V.cell? ⟨g, i * 6 + j, none⟩ = (gcl n l[i])[j]? ∧ V.cell? ⟨g, k * 6 + j, none⟩ = (gcl n l[k])[j]?) := Lib.hid (fun V j hV hj =>
        ⟨HG'.out V i j (HB.out.trans (Joins.below_le hV HB.out.size)) hi hj, HG'.out V k j (HB.out.trans (Joins.below_le hV HB.out.size)) hkl hj⟩)
      obtain ⟨y, hy⟩ : ∃ y, l[i] = y := ⟨_, rfl⟩
      obtain ⟨x, hx⟩ : ∃ x, l[k] = x := ⟨_, rfl⟩
      rw [hy, hx] at HC
      rw [hy, hx] at hcmp
      have HE := Lib.hid (fun w => compare_any (n : Int) (n : Int) (fun p => ((y p : Nat) : Int)) (fun p => ((x p : Nat) : Int)) w)
      obtain ⟨gg, eg⟩ : ∃ c, gcmp (n : Int) (n : Int) (fun p => ((y p : Nat) : Int)) (fun p => ((x p : Nat) : Int)) = c := ⟨_, rfl⟩
      rw [eg] at HE hcmp
      have Z : Hid (∀ V, Below wr.heap.size wr V → Below wr.heap.size wr V ∧ V.cell? ⟨g, i * 6, none⟩ = some (.int .i64 (n : Int)) ∧ V.cell? ⟨g, i * 6 + 1, none⟩ = some (.int .i64 (y 0 : Int)) ∧ V.cell? ⟨g, i * 6 + 2, none⟩ = some (.int .i64 (y 1 : Int)) ∧ V.cell? ⟨g, i * 6 + 3, none⟩ = some (.int .i64 (y 2 : Int)) ∧ V.cell? ⟨g, i * 6 + 4, none⟩ = some (.int .i64 (y 3 : Int)) ∧ V.cell? ⟨g, i * 6 + 5, none⟩ = some (.int .i64 (y 4 : Int)) ∧ V.cell? ⟨g, k * 6, none⟩ = some (.int .i64 (n : Int)) ∧ V.cell? ⟨g, k * 6 + 1, none⟩ = some (.int .i64 (x 0 : Int)) ∧ V.cell? ⟨g, k * 6 + 2, none⟩ = some (.int .i64 (x 1 : Int)) ∧ V.cell? ⟨g, k * 6 + 3, none⟩ = some (.int .i64 (x 2 : Int)) ∧ V.cell? ⟨g, k * 6 + 4, none⟩ = some (.int .i64 (x 3 : Int)) ∧ V.cell? ⟨g, k * 6 + 5, none⟩ = some (.int .i64 (x 4 : Int))) := Lib.hid (fun V hV => by
        have h0 := HC.out V 0 hV (by omega)
        have h1 := HC.out V 1 hV (by omega)
        have h2 := HC.out V 2 hV (by omega)
        have h3 := HC.out V 3 hV (by omega)
        have h4 := HC.out V 4 hV (by omega)
        have h5 := HC.out V 5 hV (by omega)
        exact ⟨hV, h0.1, h1.1, h2.1, h3.1, h4.1, h5.1, h0.2, h1.2, h2.2, h3.2, h4.2, h5.2⟩)
      have hsub : IntKind.i64.wrap ((i : Int) - 1) = (k : Int) := by rw [IntWalk.i64_in _ (by omega)]; omega
      have i1 : (0 : Int) ≤ (i : Int) := by omega
      have i2 : (i : Int) < (l.length : Int) := by omega
      have i3 : (0 : Int) ≤ (k : Int) := by omega
      have i4 : (k : Int) < (l.length : Int) := by omega
      have hg0 : decide (gg < 0) = false := by simpa using hcmp
      have HK := Lib.hid hk
      have i5 : (0 : Int) < (i : Int) := by omega
      clear hy hx eg hsame hk HC
      obtain ⟨_, yc0, yc1, yc2, yc3, yc4, yc5, xc0, xc1, xc2, xc3, xc4, xc5⟩ := Z.out wr (Below.refl _ _)
      go_upto_region 4 with fail
      go_cut [24] (fun r wx => r = .bool false ∧ Below wr.heap.size wr wx)
      case first =>
        go_region_held3 (fun V => Below wr.heap.size wr V ∧ V.cell? ⟨g, i * 6, none⟩ = some (.int .i64 (n : Int)) ∧ V.cell? ⟨g, i * 6 + 1, none⟩ = some (.int .i64 (y 0 : Int)) ∧ V.cell? ⟨g, i * 6 + 2, none⟩ = some (.int .i64 (y 1 : Int)) ∧ V.cell? ⟨g, i * 6 + 3, none⟩ = some (.int .i64 (y 2 : Int)) ∧ V.cell? ⟨g, i * 6 + 4, none⟩ = some (.int .i64 (y 3 : Int)) ∧ V.cell? ⟨g, i * 6 + 5, none⟩ = some (.int .i64 (y 4 : Int)) ∧ V.cell? ⟨g, k * 6, none⟩ = some (.int .i64 (n : Int)) ∧ V.cell? ⟨g, k * 6 + 1, none⟩ = some (.int .i64 (x 0 : Int)) ∧ V.cell? ⟨g, k * 6 + 2, none⟩ = some (.int .i64 (x 1 : Int)) ∧ V.cell? ⟨g, k * 6 + 3, none⟩ = some (.int .i64 (x 2 : Int)) ∧ V.cell? ⟨g, k * 6 + 4, none⟩ = some (.int .i64 (x 3 : Int)) ∧ V.cell? ⟨g, k * 6 + 5, none⟩ = some (.int .i64 (x 4 : Int))) (first | exact Z.out _ (below_dn 1 (Below.refl _ _)) | exact Z.out _ (Below.refl _ _) | exact Z.out _ (by assumption)) ((go_at_call 14; refine (HE.out _).mono ?_; rintro e y1 ⟨rfl, hz1⟩; have kk1 : Below wr.heap.size wr y1 := Below.trans (by first | assumption | exact And.left (by assumption)) (Joins.below_le hz1 (Below.size (by first | assumption | exact And.left (by assumption))))))
        all_goals
          go_wp2_with fail
          go_meet
          exact ⟨rfl, by first | assumption | exact below_dn 1 (by assumption)⟩
      case rest =>
        obtain ⟨rfl, hb⟩ := hcut
        have HB2 := Lib.hid (HB.out.trans (Joins.below_le hb HB.out.size))
        clear yc0 yc1 yc2 yc3 yc4 yc5 xc0 xc1 xc2 xc3 xc4 xc5 hb
        go_wp2_with fail
        go_roundw
        case rel => exact ⟨k, hkl, by go_num, HB2.out⟩
        case measure => have := HK.out; simp [intOf]; omega
end Go.Proofs.YtacnhklhimogkaaDoor
