/- Package procset and its specification: the subsets. -/
import Derived.Test.YtienbebbgioccaaDoorPsC
import Derived.WalkKit
import Derived.WalkSpells
import Derived.WalkLawsBesides
import Derived.Handy
import Derived.Deep.QuietTactic
import Derived.BigQuiet
import Derived.Outline
import Derived.Laws.BitsAllLaws
import Derived.IntWalk
import Derived.Lib.SmallJoins
import Derived.Lib.Hide
import Derived.Deep.DeepCutAuto
import Derived.LoopTactic
import Derived.Deep.RegionWith
namespace Go.Proofs.YtienbebbgioccaaDoor
set_option linter.unusedVariables false
set_option linter.unusedSimpArgs false
open Go.RowKit

theorem sub_len (S : Nat) (h : S < 32) : (sub S 0).length ≤ 32 := by
  unfold sub
  refine Nat.le_trans (List.length_filter_le _ _) ?_
  simp; omega
set_option maxHeartbeats 1000000 in
theorem subsets_okn (N S : Nat) (h : SOk N S) (w : World) : Calls Tryd.prog 24 #[.int .i64 (N : Int), .int .i64 (S : Int)] w (LRes (sub S 0) 0 w.heap.size w) := by
  have H := Lib.hid (fun w => pchk_ok N S h w)
  have hs := h.lt
  have HE : Hid (∀ W, Calls Tryd.prog 46 #[.int .i64 (S : Int)] W fun e w' => e = .returned (.func (.func 60) #[] #[.pointer (some ⟨W.heap.size, 0, none⟩)]) ∧ w' = W.alloc (.cells #[.int .i64 (S : Int)] 3)) := Lib.hid (fun W => callsIn_wide.1 (subsets_in Fence.wide 3 trivial rfl (S : Int) W))
  have HC : Hid (∀ W Bn, Bn < W.heap.size → W.cell? ⟨Bn, 0, none⟩ = some (.int .i64 (S : Int)) → Calls Tryd.prog 38 #[.func (.func 60) #[] #[.pointer (some ⟨Bn, 0, none⟩)]] W fun e W' => ∃ v, e = .returned v ∧ W'.ownsRow W.heap.size 3 1 v (sub S 0).length ((sub S 0).map fun x : Nat => Value.int .i64 (x : Int)) ∧ (v = .slice none 0 0 ↔ sub S 0 = []) ∧ Below W.heap.size W W') := Lib.hid (fun W Bn hB hc => by
    have hm := sub_len S hs
    refine callsIn_wide.1 (collect_in (fun x : Nat => x) Fence.wide 3 trivial 60 _ trivial (fun args w => by kernel_rfl) rfl (by omega) (sub S 0) (by omega) W (fun V hV => ?_))
    exact subsets_stops (fun x : Nat => x) Fence.wide 2 trivial rfl (by omega) Bn S hs (Below W.heap.size) (fun A A' h => h.cell (p := ⟨Bn, 0, none⟩) hB) (sub S 0) (by simp) V (Nat.lt_of_lt_of_le hB hV.size) ((hV.cell (p := ⟨Bn, 0, none⟩) hB).trans hc))
  clear h
  go_enter Tryd.func24, Tryd.ntmps24
  go_wp2_with fail
  refine (H.out _).mono ?_
  rintro e w' ⟨rfl, rfl⟩
  go_wp2_with fail
  refine (HE.out _).mono ?_
  rintro e w' ⟨rfl, rfl⟩
  go_wp2_with fail
  refine (HC.out _ w.heap.size (by simp) (by simp)).mono ?_
  rintro e w2 ⟨v, rfl, ho, _, hb⟩
  have hB := fresh_below hb
  have HL : Hid (LiesI w2 v (sub S 0)) := Lib.hid (LiesI.of ho)
  clear ho hb
  go_wp2_with fail
  go_ret2
  exact ⟨v, rfl, hB, HL.out⟩

/-- Whether each of the first p elements of a is in b. -/
def insb (a b p : Nat) : Bool := (List.range p).all fun q => !(a / 2 ^ q % 2 == 1) || b / 2 ^ q % 2 == 1
theorem insb_five : ∀ a : Fin 32, ∀ b : Fin 32, insb a.val b.val 5 = good b.val a.val := by decide +kernel
theorem insb_succ (a b p : Nat) : insb a b (p + 1) = (insb a b p && (!(a / 2 ^ p % 2 == 1) || b / 2 ^ p % 2 == 1)) := by
  unfold insb
  rw [List.range_succ, List.all_append]
  simp
theorem insb_mono {a b p : Nat} (h : insb a b p = false) (hp : p ≤ 5) : insb a b 5 = false := by
  rw [Bool.eq_false_iff] at h ⊢
  intro h2
  apply h
  unfold insb at h2 ⊢
  rw [List.all_eq_true] at h2 ⊢
  intro q hq
  exact h2 q (List.mem_range.2 (by have := List.mem_range.1 hq; omega))

set_option maxRecDepth 100000 in
set_option maxHeartbeats 2000000 in
theorem rinside_ok (a b : Nat) (ha : a < 32) (hb : b < 32) (w : World) : Calls Tryd.prog 61 #[.int .i64 (a : Int), .int .i64 (b : Int)] w fun e w' => e = .returned (.bool (good b a)) ∧ w = w' := by
  rw [← insb_five ⟨a, ha⟩ ⟨b, hb⟩]
  show Calls _ _ _ _ fun e w' => e = .returned (.bool (insb a b 5)) ∧ w = w'
  go_enter Tryd.func61, Tryd.ntmps61
  go_wp2_with fail
  go_loop [5] (fun j => ∃ p : Nat, p ≤ 5 ∧ j = .int .i64 (p : Int) ∧ insb a b p = true) (fun j => 5 - (intOf j).toNat)
  case atStart => exact ⟨0, by omega, rfl, rfl⟩
  case round =>
    obtain ⟨p, hp, rfl, hin⟩ := hrel
    have Hin := Lib.hid hin
    clear hin
    by_cases hlt : p < 5
    · by_cases hba : a / 2 ^ p % 2 = 1
      · have H := Lib.hid (fun w => hasb a p hp ha w)
        rw [decide_eq_true hba] at H
        by_cases hbb : b / 2 ^ p % 2 = 1
        · have H2 := Lib.hid (fun w => hasb b p hp hb w)
          rw [decide_eq_true hbb] at H2
          have HN : Hid (insb a b (p + 1) = true) := Lib.hid (by rw [insb_succ, Hin.out]; simp [hbb])
          clear hba hbb Hin
          go_wp2_with fail
          refine (H.out _).mono ?_
          rintro e w' ⟨rfl, rfl⟩
          go_wp2_with fail
          refine (H2.out _).mono ?_
          rintro e w' ⟨rfl, rfl⟩
          go_wp2_with fail
          go_round
          case rel => exact ⟨p + 1, by omega, by go_num, HN.out⟩
          case measure => simp [intOf]; omega
        · have H2 := Lib.hid (fun w => hasb b p hp hb w)
          rw [decide_eq_false hbb] at H2
          have HN : Hid (insb a b 5 = false) := Lib.hid (insb_mono (p := p + 1) (by rw [insb_succ]; simp [hba, hbb]) (by omega))
          clear hba hbb Hin
          go_wp2_with fail
          refine (H.out _).mono ?_
          rintro e w' ⟨rfl, rfl⟩
          go_wp2_with fail
          refine (H2.out _).mono ?_
          rintro e w' ⟨rfl, rfl⟩
          go_wp2_with fail
          go_ret
          exact ⟨by (rw [HN.out]) <;> rfl, rfl⟩
      · have H := Lib.hid (fun w => hasb a p hp ha w)
        rw [decide_eq_false hba] at H
        have HN : Hid (insb a b (p + 1) = true) := Lib.hid (by rw [insb_succ, Hin.out]; simp [hba])
        clear hba Hin
        go_wp2_with fail
        refine (H.out _).mono ?_
        rintro e w' ⟨rfl, rfl⟩
        go_wp2_with fail
        go_round
        case rel => exact ⟨p + 1, by omega, by go_num, HN.out⟩
        case measure => simp [intOf]; omega
    · have hp5 : p = 5 := by omega
      subst hp5
      go_wp2_with fail
      go_ret
      exact ⟨by (rw [Hin.out]) <;> rfl, rfl⟩

/-- The sets inside of S below k. -/
def subb (S k : Nat) : List Nat := (List.range k).filter (good S)
theorem subb_end (S : Nat) : subb S (S + 1) = sub S 0 := by unfold subb sub; rw [List.range_eq_range']; rfl
theorem subb_yes {S k : Nat} (h : good S k = true) : subb S (k + 1) = subb S k ++ [k] := by
  unfold subb; rw [List.range_succ, List.filter_append]; simp [h]
theorem subb_no {S k : Nat} (h : ¬ good S k = true) : subb S (k + 1) = subb S k := by
  unfold subb; rw [List.range_succ, List.filter_append]; simp [h]
theorem subb_le (S k : Nat) : (subb S k).length ≤ k := by
  unfold subb; exact Nat.le_trans (List.length_filter_le _ _) (by simp)

set_option maxRecDepth 100000 in
set_option maxHeartbeats 2000000 in
theorem rparts_ok (S : Nat) (hs : S < 32) (w : World) : Calls Tryd.prog 47 #[.int .i64 (S : Int)] w (Made (sub S 0) w.heap.size w) := by
  obtain ⟨i0, hi, hz0, hz1, hz2⟩ := info_parts infoI
  obtain ⟨R0, hR0⟩ : ∃ R, w.heap.size = R := ⟨_, rfl⟩
  have HR := Lib.hid hR0
  go_enter Tryd.func47, Tryd.ntmps47
  go_wp2_with fail
  rw [hR0]
  clear hR0
  go_loopw [3, 4] (fun v j wr => ∃ p : Nat, p ≤ S + 1 ∧ j = .int .i64 (p : Int) ∧ Below R0 w wr ∧ wr.ownsRow R0 3 1 v (subb S p).length (cellsI (subb S p))) (fun _ j _ => S + 1 - (intOf j).toNat)
  case atStart => exact ⟨0, by omega, rfl, Below.refl _ _, World.ownsRow_nil _ _ _ _⟩
  case round =>
    obtain ⟨p, hp, rfl, hB, hO⟩ := hrel
    have HB := Lib.hid hB
    have HO := Lib.hid hO
    clear hB hO
    by_cases hlt : p ≤ S
    · have hml := subb_le S p
      have H := Lib.hid (fun w => rinside_ok p S (by omega) hs w)
      by_cases hbit : good S p = true
      · rw [hbit] at H
        have HQ := Lib.hid (subb_yes hbit)
        clear hbit
        go_wp2_with fail
        refine (H.out _).mono ?_
        rintro e w' ⟨rfl, rfl⟩
        go_wp2_with (at_builtin; refine wpList_append_own _ rfl _ _ 27 rfl R0 3 i0 (.int .i64 0) 1 8 Tryd.underlying27 hi hz0 hz1 hz2 rfl (by decide) _ _ _ rfl (HO.out.alloc _) ⟨wr.heap.size, 0, none⟩ 1 1 [.int .i64 (p : Int)] rfl rfl ?c1 ?c2 ?c3 ?c4 ?c5 ?_)
        case c1 => exact cell_one_new _ _ _
        case c2 => intro u hu; simp at hu; rw [hu]; rfl
        case c3 => unfold maxLen; omega
        case c4 => omega
        case c5 => have h1 := HB.out.size; have h2 := HR.out; simp; omega
        intro v' w1 hown' hgrow hnil
        have HO2 := Lib.hid (show w1.ownsRow R0 3 1 v' (subb S (p + 1)).length (cellsI (subb S (p + 1))) from by
          rw [HQ.out, List.length_append, cellsI_app]
          exact hown')
        have HB2 := Lib.hid ((HB.out.alloc (by have h1 := HB.out.size; have h2 := HR.out; omega) _).grown hgrow (by have h1 := HB.out.size; have h2 := HR.out; simp; omega) (fun k hk => (HO.out.lt k hk).1))
        clear hown' hgrow hnil HO HB
        go_wp2_with fail
        go_roundw
        case rel => exact ⟨p + 1, by omega, by go_num, HB2.out, HO2.out⟩
        case measure => simp [intOf]; omega
      · rw [show good S p = false from by simpa using hbit] at H
        have HO2 : Hid (wr.ownsRow R0 3 1 u3 (subb S (p + 1)).length (cellsI (subb S (p + 1)))) := Lib.hid (by rw [subb_no hbit]; exact HO.out)
        clear hbit HO
        go_wp2_with fail
        refine (H.out _).mono ?_
        rintro e w' ⟨rfl, rfl⟩
        go_wp2_with fail
        go_roundw
        case rel => exact ⟨p + 1, by omega, by go_num, HB.out, HO2.out⟩
        case measure => simp [intOf]; omega
    · have hp5 : p = S + 1 := by omega
      have HO2 : Hid (wr.ownsRow R0 3 1 u3 (sub S 0).length (cellsI (sub S 0))) := Lib.hid (by rw [← subb_end, ← hp5]; exact HO.out)
      clear HO
      go_wp2_with fail
      go_ret
      exact ⟨_, rfl, by first | exact HB.out | (rw [HR.out]; exact HB.out), by first | exact HO2.out | (rw [HR.out]; exact HO2.out)⟩
theorem rsubsets_okn (N S : Nat) (h : SOk N S) (w : World) : Calls Tryd.prog 25 #[.int .i64 (N : Int), .int .i64 (S : Int)] w (LRes (sub S 0) 0 w.heap.size w) := by
  have H := Lib.hid (fun w => rchk_ok N S h w)
  have HL := Lib.hid (fun w => rparts_ok S h.lt w)
  clear h
  go_enter Tryd.func25, Tryd.ntmps25
  go_wp2_with fail
  refine (H.out _).mono ?_
  rintro e w' ⟨rfl, rfl⟩
  go_wp2_with fail
  refine (HL.out _).mono ?_
  rintro e w2 ⟨v, rfl, hb, ho⟩
  have HO : Hid (LiesI w2 v (sub S 0)) := Lib.hid (LiesI.of ho)
  clear ho
  go_wp2_with fail
  go_ret2
  exact ⟨v, rfl, hb, HO.out⟩
end Go.Proofs.YtienbebbgioccaaDoor
