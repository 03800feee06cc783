/- Package procset and its specification: Choose, with its errors. -/
import Derived.Test.YtienbebbgioccaaDoorPsE
import Derived.WalkKit
import Derived.WalkSpells
import Derived.WalkLawsBesides
import Derived.Handy
import Derived.Deep.QuietTactic
import Derived.BigQuiet
import Derived.Outline
import Derived.Laws.BitsAllLaws
import Derived.IntWalk
import Derived.Lib.SmallJoins
import Derived.Lib.Hide
import Derived.Deep.DeepCutAuto
import Derived.LoopTactic
import Derived.Deep.RegionWith
namespace Go.Proofs.YtienbebbgioccaaDoor
set_option linter.unusedVariables false
set_option linter.unusedSimpArgs false
open Go.RowKit

theorem choose_bad (n s k c : Int) (h0 : c ≠ 0) (Hc : ∀ w, Calls Tryd.prog 13 #[.int .i64 n, .int .i64 s] w fun e w' => e = .returned (.tuple #[.int .i64 0, .int .i64 c]) ∧ w = w') (w : World) : Calls Tryd.prog 26 #[.int .i64 n, .int .i64 s, .int .i64 k] w fun e w' => e = .returned (.tuple #[.slice none 0 0, .int .i64 c]) ∧ Below w.heap.size w w' := by
  have H := Lib.hid Hc
  have hb : (c != 0) = true := by simpa using h0
  clear Hc h0
  go_enter Tryd.func26, Tryd.ntmps26
  go_wp2_with fail
  refine (H.out _).mono ?_
  rintro e w' ⟨rfl, rfl⟩
  go_wp2_with fail
  go_ret2
  exact ⟨rfl, (Below.refl _ _).alloc (Nat.le_refl _) _⟩
set_option maxHeartbeats 1000000 in
theorem choose_rng (N S : Nat) (h : SOk N S) (k : Int) (hk : k < 0 ∨ (num S : Int) < k) (w : World) : Calls Tryd.prog 26 #[.int .i64 (N : Int), .int .i64 (S : Int), .int .i64 k] w fun e w' => e = .returned (.tuple #[.slice none 0 0, .int .i64 2]) ∧ Below w.heap.size w w' := by
  have H := Lib.hid (fun w => size_okn N S h w)
  have hn5 : num S ≤ 5 := memb_le S 5
  obtain ⟨u, hu⟩ : ∃ u, num S = u := ⟨_, rfl⟩
  rw [hu] at H hk hn5
  clear h hu
  rcases hk with hk | hk
  all_goals
    go_enter Tryd.func26, Tryd.ntmps26
    go_wp2_with fail
    refine (H.out _).mono ?_
    rintro e w' ⟨rfl, rfl⟩
    go_wp2_with fail
    go_ret2
    exact ⟨rfl, (Below.refl _ _).alloc (Nat.le_refl _) _⟩
theorem choose_okn (N S : Nat) (h : SOk N S) (k : Int) (hk : 0 ≤ k ∧ k ≤ (num S : Int)) (w : World) :
    Calls Tryd.prog 26 #[.int .i64 (N : Int), .int .i64 (S : Int), .int .i64 k] w (LRes (cho S k) 0 w.heap.size w) := callsIn_wide.1 (choose_in N S h k hk w)

theorem rchoose_bad (n s k c : Int) (h0 : c ≠ 0) (Hc : ∀ w, Calls Tryd.prog 18 #[.int .i64 n, .int .i64 s] w fun e w' => e = .returned (.int .i64 c) ∧ w = w') (w : World) : Calls Tryd.prog 27 #[.int .i64 n, .int .i64 s, .int .i64 k] w fun e w' => e = .returned (.tuple #[.slice none 0 0, .int .i64 c]) ∧ Below w.heap.size w w' := by
  have H := Lib.hid Hc
  have hb : (c != 0) = true := by simpa using h0
  clear Hc h0
  go_enter Tryd.func27, Tryd.ntmps27
  go_wp2_with fail
  refine (H.out _).mono ?_
  rintro e w' ⟨rfl, rfl⟩
  go_wp2_with fail
  go_ret2
  exact ⟨rfl, Below.refl _ _⟩
set_option maxHeartbeats 1000000 in
theorem rchoose_rng (N S : Nat) (h : SOk N S) (k : Int) (hk : k < 0 ∨ (num S : Int) < k) (w : World) : Calls Tryd.prog 27 #[.int .i64 (N : Int), .int .i64 (S : Int), .int .i64 k] w fun e w' => e = .returned (.tuple #[.slice none 0 0, .int .i64 2]) ∧ Below w.heap.size w w' := by
  have H := Lib.hid (fun w => rchk_ok N S h w)
  have HN := Lib.hid (fun w => rnumber_ok S h.lt w)
  have hn5 : num S ≤ 5 := memb_le S 5
  obtain ⟨u, hu⟩ : ∃ u, num S = u := ⟨_, rfl⟩
  rw [hu] at HN hk hn5
  clear h hu
  by_cases hk0 : k < 0
  · clear hk
    go_enter Tryd.func27, Tryd.ntmps27
    go_wp2_with fail
    refine (H.out _).mono ?_
    rintro e w' ⟨rfl, rfl⟩
    go_wp2_with fail
    go_ret2
    exact ⟨rfl, Below.refl _ _⟩
  · have hk1 : (u : Int) < k := by omega
    have hk2 : 0 ≤ k := by omega
    clear hk hk0
    go_enter Tryd.func27, Tryd.ntmps27
    go_wp2_with fail
    refine (H.out _).mono ?_
    rintro e w' ⟨rfl, rfl⟩
    go_wp2_with fail
    refine (HN.out _).mono ?_
    rintro e w2 ⟨rfl, hb⟩
    go_wp2_with fail
    go_ret2
    exact ⟨rfl, hb⟩

/-- What of the first p of a list has k elements. -/
def chp (k : Int) (l : List Nat) (p : Nat) : List Nat := (l.take p).filter fun x => ((num x : Nat) : Int) == k
theorem chp_yes {k : Int} {l : List Nat} {p : Nat} (h : p < l.length) (e : (((num l[p] : Nat) : Int) == k) = true) : chp k l (p + 1) = chp k l p ++ [l[p]] := by
  unfold chp; rw [List.take_succ_eq_append_getElem h, List.filter_append]; simp [List.filter_cons, e]
theorem chp_no {k : Int} {l : List Nat} {p : Nat} (h : p < l.length) (e : (((num l[p] : Nat) : Int) == k) = false) : chp k l (p + 1) = chp k l p := by
  unfold chp; rw [List.take_succ_eq_append_getElem h, List.filter_append]; simp [List.filter_cons, e]
theorem chp_le (k : Int) (l : List Nat) (p : Nat) : (chp k l p).length ≤ l.length := by
  unfold chp
  exact Nat.le_trans (List.length_filter_le _ _) (List.length_take_le' ..)

set_option maxRecDepth 100000 in
set_option maxHeartbeats 4000000 in
theorem rchoose_okn (N S : Nat) (h : SOk N S) (k : Int) (hk : 0 ≤ k ∧ k ≤ (num S : Int)) (w : World) :
    Calls Tryd.prog 27 #[.int .i64 (N : Int), .int .i64 (S : Int), .int .i64 k] w (LRes (cho S k) 0 w.heap.size w) := by
  obtain ⟨i0, hi, hz0, hz1, hz2⟩ := info_parts infoI
  have H := Lib.hid (fun w => rchk_ok N S h w)
  have HN := Lib.hid (fun w => rnumber_ok S h.lt w)
  have HP := Lib.hid (fun w => rparts_ok S h.lt w)
  have hn5 : num S ≤ 5 := memb_le S 5
  have hll := sub_len S h.lt
  have HLt := Lib.hid (sub_lt S h.lt)
  obtain ⟨hk0, hk1⟩ := hk
  have Hcho : Hid (chp k (sub S 0) (sub S 0).length = cho S k) := Lib.hid (by unfold chp cho; rw [List.take_length])
  obtain ⟨u, hu⟩ : ∃ u, num S = u := ⟨_, rfl⟩
  obtain ⟨l, hl⟩ : ∃ l, sub S 0 = l := ⟨_, rfl⟩
  rw [hu] at HN hk1 hn5
  rw [hl] at HP hll HLt Hcho
  clear h hu hl
  go_enter Tryd.func27, Tryd.ntmps27
  go_wp2_with fail
  refine (H.out _).mono ?_
  rintro e w' ⟨rfl, rfl⟩
  go_wp2_with fail
  refine (HN.out _).mono ?_
  rintro e w2 ⟨rfl, hb2⟩
  go_wp2_with fail
  refine (HP.out _).mono ?_
  rintro e w3 ⟨v, rfl, hb3, ho⟩
  have hB3 := hb2.trans (Joins.below_le hb3 hb2.size)
  have HB3 := Lib.hid hB3
  have HL := Lib.hid (LiesI.of ho)
  clear hb2 hb3 ho hB3
  rcases HL.out.form with ⟨rfl, h0⟩ | ⟨g, cap, rfl, hg, hcp, hcell⟩
  · have hl0 : l = [] := List.length_eq_zero_iff.1 h0
    subst hl0
    have hcn : cho S k = [] := by rw [← Hcho.out]; rfl
    have HC := Lib.hid hcn
    clear HL h0 hcn
    go_wp2_with fail
    go_rounds 1
    go_ret2
    exact ⟨_, rfl, HB3.out, ⟨.inl ⟨rfl, by rw [HC.out]; rfl⟩⟩⟩
  have Hcell := Lib.hid hcell
  clear HL hcell
  go_wp2_with fail
  obtain ⟨R0, hR0⟩ : ∃ R, w3.heap.size = R := ⟨_, rfl⟩
  have HR := Lib.hid hR0
  rw [hR0] at Hcell hg
  clear hR0
  go_loopw [9, 11] (fun v j wr => ∃ p : Nat, p ≤ l.length ∧ j = .int .i64 (p : Int) ∧ Below R0 w3 wr ∧ wr.ownsRow R0 3 1 v (chp k l p).length (cellsI (chp k l p))) (fun _ j _ => l.length - (intOf j).toNat)
  case atStart => exact ⟨0, by omega, rfl, Below.refl _ _, World.ownsRow_nil _ _ _ _⟩
  case round =>
    obtain ⟨p, hp, rfl, hB, hO⟩ := hrel
    have HB := Lib.hid hB
    have HO := Lib.hid hO
    clear hB hO
    by_cases hlt : p < l.length
    · have hml := chp_le k l p
      have hc := Hcell.out wr p HB.out hlt
      have hx32 := HLt.out l[p] (List.getElem_mem hlt)
      have HNx := Lib.hid (fun w => rnumber_ok l[p] hx32 w)
      cases hbit : (((num l[p] : Nat) : Int) == k) with
      | true =>
        have HQ := Lib.hid (chp_yes hlt hbit)
        obtain ⟨x, hx⟩ : ∃ x, l[p] = x := ⟨_, rfl⟩
        rw [hx] at hc HNx HQ hbit
        clear hx hx32
        go_wp2_with fail
        refine (HNx.out _).mono ?_
        rintro e w4 ⟨rfl, hb4⟩
        have hc4 := (hb4.cell (p := ⟨g, p, none⟩) (by have h1 := HB.out.size; have h2 := HR.out; show g < wr.heap.size; omega)).trans hc
        have HO4 : Hid (w4.ownsRow R0 3 1 u9 (chp k l p).length (cellsI (chp k l p))) := Lib.hid (by
          refine ⟨HO.out.1, ?_⟩
          rcases HO.out.2 with h0 | ⟨g', cap', cur', h1, h2, h3, h4⟩
          · exact .inl h0
          · exact .inr ⟨g', cap', cur', h1, h2, (hb4.block g' (Array.getElem?_eq_some_iff.1 h3).1).trans h3, h4⟩)
        have HB4 := Lib.hid (HB.out.trans (Joins.below_le hb4 (by have h1 := HB.out.size; have h2 := HR.out; omega)))
        clear hc hb4 HO HB
        go_wp2_with (at_builtin; refine wpList_append_own _ rfl _ _ 27 rfl R0 3 i0 (.int .i64 0) 1 8 Tryd.underlying27 hi hz0 hz1 hz2 rfl (by decide) _ _ _ rfl (HO4.out.alloc _) ⟨w4.heap.size, 0, none⟩ 1 1 [.int .i64 (x : Int)] rfl rfl ?c1 ?c2 ?c3 ?c4 ?c5 ?_)
        case c1 => exact cell_one_new _ _ _
        case c2 => intro u hu; simp at hu; rw [hu]; rfl
        case c3 => unfold maxLen; omega
        case c4 => omega
        case c5 => have h1 := HB4.out.size; have h2 := HR.out; simp; omega
        intro v' w1 hown' hgrow hnil
        have HO2 := Lib.hid (show w1.ownsRow R0 3 1 v' (chp k l (p + 1)).length (cellsI (chp k l (p + 1))) from by
          rw [HQ.out, List.length_append, cellsI_app]
          exact hown')
        have HB2 := Lib.hid ((HB4.out.alloc (by have h1 := HB4.out.size; have h2 := HR.out; omega) _).grown hgrow (by have h1 := HB4.out.size; have h2 := HR.out; simp; omega) (fun k hk => (HO4.out.lt k hk).1))
        clear hown' hgrow hnil HO4 HB4
        go_wp2_with fail
        go_roundw
        case rel => exact ⟨p + 1, by omega, by go_num, HB2.out, HO2.out⟩
        case measure => simp [intOf]; omega
      | false =>
        have HQ := Lib.hid (chp_no hlt hbit)
        obtain ⟨x, hx⟩ : ∃ x, l[p] = x := ⟨_, rfl⟩
        rw [hx] at hc HNx hbit
        clear hx hx32
        go_wp2_with fail
        refine (HNx.out _).mono ?_
        rintro e w4 ⟨rfl, hb4⟩
        have HO4 : Hid (w4.ownsRow R0 3 1 u9 (chp k l (p + 1)).length (cellsI (chp k l (p + 1)))) := Lib.hid (by
          rw [HQ.out]
          refine ⟨HO.out.1, ?_⟩
          rcases HO.out.2 with h0 | ⟨g', cap', cur', h1, h2, h3, h4⟩
          · exact .inl h0
          · exact .inr ⟨g', cap', cur', h1, h2, (hb4.block g' (Array.getElem?_eq_some_iff.1 h3).1).trans h3, h4⟩)
        have HB4 := Lib.hid (HB.out.trans (Joins.below_le hb4 (by have h1 := HB.out.size; have h2 := HR.out; omega)))
        clear hc hb4 HO HB
        go_wp2_with fail
        go_roundw
        case rel => exact ⟨p + 1, by omega, by go_num, HB4.out, HO4.out⟩
        case measure => simp [intOf]; omega
    · have hpl : p = l.length := by omega
      have HO2 : Hid (LiesI wr u9 (cho S k)) := Lib.hid (by
        have h := HO.out
        rw [hpl, Hcho.out] at h
        exact LiesI.of h)
      clear HO
      go_wp2_with fail
      go_ret2
      exact ⟨_, rfl, HB3.out.trans (Joins.below_le HB.out (by have h1 := HB3.out.size; have h2 := HR.out; omega)), HO2.out⟩
end Go.Proofs.YtienbebbgioccaaDoor
