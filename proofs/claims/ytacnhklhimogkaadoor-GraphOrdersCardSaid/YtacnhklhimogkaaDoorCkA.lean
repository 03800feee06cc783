/- The order of graphs, and complete and silent graphs, for whatever integers: what the package and the specification answer. -/
import Derived.Test.YtacnhklhimogkaaDoorGcE
import Derived.Test.YtacnhklhimogkaaDoorGcB
import Derived.Test.YtacnhklhimogkaaDoorGrN
import Derived.Test.YtacnhklhimogkaaDoorPmA
import Derived.Test.YtacnhklhimogkaaDoorPmM
import Derived.Test.YtacnhklhimogkaaDoorPmD
import Derived.Test.YtacnhklhimogkaaDoorGrR
import Derived.Test.YtacnhklhimogkaaDoorTb
import Derived.LoopTactic
import Derived.Deep.RegionWith
import Derived.WalkKit
import Derived.WalkSpells
import Derived.WalkLawsBesides
import Derived.Handy
import Derived.Deep.QuietTactic
import Derived.BigQuiet
import Derived.Outline
import Derived.Laws.BitsAllLaws
import Derived.IntWalk
import Derived.Lib.SmallJoins
import Derived.Lib.Hide
namespace Go.Proofs.YtacnhklhimogkaaDoor
set_option linter.unusedVariables false
set_option linter.unusedSimpArgs false
open Go.RowKit

/-- The order of the first numbers that differ, among m from i on. -/
def cgo (a b : Nat → Int) : Nat → Nat → Int
  | 0, _ => 0
  | m + 1, i => if a i < b i then -1 else if b i < a i then 1 else cgo a b m (i + 1)
def gcmp (na nb : Int) (a b : Nat → Int) : Int := if na < nb then -1 else if nb < na then 1 else cgo a b 5 0

theorem cgo_same {a b : Nat → Int} : ∀ m i, (∀ k, i ≤ k → k < i + m → a k = b k) → cgo a b m i = 0
  | 0, _, _ => rfl
  | m + 1, i, h => by
    have e := h i (by omega) (by omega)
    unfold cgo
    rw [if_neg (by omega), if_neg (by omega)]
    exact cgo_same m (i + 1) (fun k h1 h2 => h k (by omega) (by omega))
theorem cgo_lt {a b : Nat → Int} {k : Nat} (hk : k < 5) (h : a k < b k) : cgo a b (5 - k) k = -1 := by
  obtain ⟨m, hm⟩ : ∃ m, 5 - k = m + 1 := ⟨5 - k - 1, by omega⟩
  rw [hm]; unfold cgo; rw [if_pos h]
theorem cgo_gt {a b : Nat → Int} {k : Nat} (hk : k < 5) (h : b k < a k) : cgo a b (5 - k) k = 1 := by
  obtain ⟨m, hm⟩ : ∃ m, 5 - k = m + 1 := ⟨5 - k - 1, by omega⟩
  rw [hm]; unfold cgo; rw [if_neg (by omega), if_pos h]
theorem cgo_next {a b : Nat → Int} {k : Nat} (hk : k < 5) (h : a k = b k) : cgo a b (5 - k) k = cgo a b (5 - (k + 1)) (k + 1) := by
  obtain ⟨m, hm⟩ : ∃ m, 5 - k = m + 1 := ⟨5 - k - 1, by omega⟩
  have hm2 : 5 - (k + 1) = m := by omega
  rw [hm, hm2]; show cgo a b (m + 1) k = _; rw [cgo, if_neg (by omega), if_neg (by omega)]

theorem cmp_any (x y : Int) (w : World) : Calls Tryd.prog 44 #[.int .i64 x, .int .i64 y] w fun e w' => e = .returned (.int .i64 (if x < y then -1 else if y < x then 1 else 0)) ∧ w = w' := by
  have nan : ∀ x w, Calls Tryd.prog 62 #[.int .i64 x] w fun e w' => e = .returned (.bool false) ∧ w = w' := by
    intro x w
    go_enter Tryd.func62, Tryd.ntmps62
    go_wp2_with fail
    go_ret
    exact ⟨by simp, rfl⟩
  have HN := Lib.hid nan
  clear nan
  rcases Int.lt_trichotomy x y with h | h | h
  · rw [if_pos h]
    go_enter Tryd.func44, Tryd.ntmps44
    go_wp2_with fail
    refine (HN.out _ _).mono ?_
    rintro e w' ⟨rfl, rfl⟩
    go_wp2_with fail
    refine (HN.out _ _).mono ?_
    rintro e w' ⟨rfl, rfl⟩
    go_wp2_with fail
    go_ret
    exact ⟨rfl, rfl⟩
  · subst h
    rw [if_neg (by omega), if_neg (by omega)]
    go_enter Tryd.func44, Tryd.ntmps44
    go_wp2_with fail
    refine (HN.out _ _).mono ?_
    rintro e w' ⟨rfl, rfl⟩
    go_wp2_with fail
    refine (HN.out _ _).mono ?_
    rintro e w' ⟨rfl, rfl⟩
    go_wp2_with fail
    go_ret
    exact ⟨rfl, rfl⟩
  · rw [if_neg (by omega), if_pos h]
    go_enter Tryd.func44, Tryd.ntmps44
    go_wp2_with fail
    refine (HN.out _ _).mono ?_
    rintro e w' ⟨rfl, rfl⟩
    go_wp2_with fail
    refine (HN.out _ _).mono ?_
    rintro e w' ⟨rfl, rfl⟩
    go_wp2_with fail
    go_ret
    exact ⟨rfl, rfl⟩

theorem icell_row (n : Int) (x : Nat → Int) {k : Nat} (hk : k < 5) : (icells n x)[1 + k]? = some (.int .i64 (x k)) := by
  obtain rfl | rfl | rfl | rfl | rfl : k = 0 ∨ k = 1 ∨ k = 2 ∨ k = 3 ∨ k = 4 := by omega
  all_goals rfl

/-- Whether two graphs of whatever integers are equal. -/
def geqI (na nb : Int) (a b : Nat → Int) : Bool := (na == nb) && ((a 0 == b 0) && ((a 1 == b 1) && ((a 2 == b 2) && ((a 3 == b 3) && (a 4 == b 4)))))
theorem geqI_iff {na nb : Int} {a b : Nat → Int} : geqI na nb a b = true ↔ na = nb ∧ ∀ k, k < 5 → a k = b k := by
  unfold geqI
  simp only [Bool.and_eq_true, beq_iff_eq]
  constructor
  · rintro ⟨h, h0, h1, h2, h3, h4⟩
    refine ⟨h, fun k hk => ?_⟩
    obtain rfl | rfl | rfl | rfl | rfl : k = 0 ∨ k = 1 ∨ k = 2 ∨ k = 3 ∨ k = 4 := by omega
    all_goals assumption
  · rintro ⟨h, hk⟩
    exact ⟨h, hk 0 (by omega), hk 1 (by omega), hk 2 (by omega), hk 3 (by omega), hk 4 (by omega)⟩
theorem run_eqin_i (na nb : Int) (a b : Nat → Int) (w : World) :
    (Op.equalIn 10000 24 (.agg #[.int .i64 na, .int .i64 (a 0), .int .i64 (a 1), .int .i64 (a 2), .int .i64 (a 3), .int .i64 (a 4)]) (.agg #[.int .i64 nb, .int .i64 (b 0), .int .i64 (b 1), .int .i64 (b 2), .int .i64 (b 3), .int .i64 (b 4)])).run Tryd.prog w = .ok (geqI na nb a b) w := by
  have h := run_eql_arr (a 0) (a 1) (a 2) (a 3) (a 4) (b 0) (b 1) (b 2) (b 3) (b 4) 9996 w
  simp only [Nat.reduceAdd] at h
  unfold geqI
  simp [go_sem, h]
  by_cases hn : na = nb <;> by_cases h0 : a 0 = b 0 <;> by_cases h1 : a 1 = b 1 <;> by_cases h2 : a 2 = b 2 <;> by_cases h3 : a 3 = b 3 <;> by_cases h4 : a 4 = b 4 <;> simp [hn, h0, h1, h2, h3, h4]
theorem run_eql_i (na nb : Int) (a b : Nat → Int) (w : World) :
    (binOp .eql 24 (.agg #[.int .i64 na, .int .i64 (a 0), .int .i64 (a 1), .int .i64 (a 2), .int .i64 (a 3), .int .i64 (a 4)]) (.agg #[.int .i64 nb, .int .i64 (b 0), .int .i64 (b 1), .int .i64 (b 2), .int .i64 (b 3), .int .i64 (b 4)])).run Tryd.prog w = .ok (.bool (geqI na nb a b)) w := by
  rw [run_eql_struct, run_eqin_i]
  rfl

set_option maxHeartbeats 1000000 in
theorem compare_any (na nb : Int) (a b : Nat → Int) (w : World) :
    Calls Tryd.prog 14 #[iv na a, iv nb b] w fun e w' => e = .returned (.int .i64 (gcmp na nb a b)) ∧ Below w.heap.size w w' := by
  have heq := fun w => run_eql_i na nb a b w
  cases hg : geqI na nb a b with
  | true =>
    obtain ⟨hn, hk⟩ := geqI_iff.1 hg
    have hr : gcmp na nb a b = 0 := by
      unfold gcmp
      rw [if_neg (by omega), if_neg (by omega)]
      exact cgo_same 5 0 (fun k _ h => hk k (by omega))
    rw [hr]
    rw [hg] at heq
    clear hg hn hk hr
    go_enter Tryd.func14, Tryd.ntmps14
    go_wp2_with fail
    go_ret
    exact ⟨rfl, ((Below.refl _ _).alloc (Nat.le_refl _) _).alloc (by simp) _⟩
  | false =>
    rw [hg] at heq
    clear hg
    have Hcmp := Lib.hid (fun x y w => cmp_any x y w)
    rcases Int.lt_trichotomy na nb with hn | hn | hn
    · have hr : gcmp na nb a b = -1 := if_pos hn
      rw [hr]
      have hc : Hid (∀ w, Calls Tryd.prog 44 #[.int .i64 na, .int .i64 nb] w fun e w' => e = .returned (.int .i64 (-1)) ∧ w = w') := Lib.hid (fun w => by have := Hcmp.out na nb w; rw [if_pos hn] at this; exact this)
      clear hr hn Hcmp
      go_enter Tryd.func14, Tryd.ntmps14
      go_wp2_with fail
      refine (hc.out _).mono ?_
      rintro e w' ⟨rfl, rfl⟩
      go_wp2_with fail
      go_ret
      exact ⟨rfl, ((Below.refl _ _).alloc (Nat.le_refl _) _).alloc (by simp) _⟩
    · subst hn
      have hr0 : gcmp na na a b = cgo a b 5 0 := by unfold gcmp; rw [if_neg (by omega), if_neg (by omega)]
      obtain ⟨r, hr⟩ : ∃ r, gcmp na na a b = r := ⟨_, rfl⟩
      rw [hr] at hr0 ⊢
      clear hr
      have hc : Hid (∀ w, Calls Tryd.prog 44 #[.int .i64 na, .int .i64 na] w fun e w' => e = .returned (.int .i64 0) ∧ w = w') := Lib.hid (fun w => by have := Hcmp.out na na w; rw [if_neg (by omega), if_neg (by omega)] at this; exact this)
      go_enter Tryd.func14, Tryd.ntmps14
      go_wp2_with fail
      refine (hc.out _).mono ?_
      rintro e w' ⟨rfl, rfl⟩
      clear heq hc
      have BA : Below w.heap.size w ((w.alloc (.cells #[.int .i64 na, .int .i64 (a 0), .int .i64 (a 1), .int .i64 (a 2), .int .i64 (a 3), .int .i64 (a 4)] 24)).alloc (.cells #[.int .i64 na, .int .i64 (b 0), .int .i64 (b 1), .int .i64 (b 2), .int .i64 (b 3), .int .i64 (b 4)] 24)) := ((Below.refl _ _).alloc (Nat.le_refl _) _).alloc (by simp) _
      have XB : Box ((w.alloc (.cells #[.int .i64 na, .int .i64 (a 0), .int .i64 (a 1), .int .i64 (a 2), .int .i64 (a 3), .int .i64 (a 4)] 24)).alloc (.cells #[.int .i64 na, .int .i64 (b 0), .int .i64 (b 1), .int .i64 (b 2), .int .i64 (b 3), .int .i64 (b 4)] 24)) (w.heap.size + 1) #[.int .i64 na, .int .i64 (b 0), .int .i64 (b 1), .int .i64 (b 2), .int .i64 (b 3), .int .i64 (b 4)] 24 := Box.at_ (by simp) _ _
      go_wp2_with fail
      have HB := Lib.hid (fun k (hk : k < 5) => (XB.cell (1 + k)).trans (icell_row na b hk))
      have hsz := XB.lt
      obtain ⟨W, hW⟩ : ∃ W, ((w.alloc (.cells #[.int .i64 na, .int .i64 (a 0), .int .i64 (a 1), .int .i64 (a 2), .int .i64 (a 3), .int .i64 (a 4)] 24)).alloc (.cells #[.int .i64 na, .int .i64 (b 0), .int .i64 (b 1), .int .i64 (b 2), .int .i64 (b 3), .int .i64 (b 4)] 24)) = W := ⟨_, rfl⟩
      rw [hW] at BA HB hsz ⊢
      clear XB hW
      go_loop [22] (fun j => ∃ k : Nat, k ≤ 5 ∧ j = .int .i64 k ∧ r = cgo a b (5 - k) k) (fun j => 5 - (intOf j).toNat)
      case atStart => exact ⟨0, by omega, rfl, hr0⟩
      case round =>
        obtain ⟨k, hk, rfl, hre⟩ := hrel
        clear hr0
        by_cases hlt : k < 5
        · have hidx := fun w => idx_any a k hlt w
          have hcb := HB.out k hlt
          have hc := fun w => Hcmp.out (a k) (b k) w
          rcases Int.lt_trichotomy (a k) (b k) with h | h | h
          · rw [cgo_lt hlt h] at hre
            subst hre
            rw [if_pos h] at hc
            obtain ⟨u, hu⟩ : ∃ u, a k = u := ⟨_, rfl⟩
            obtain ⟨v, hv⟩ : ∃ v, b k = v := ⟨_, rfl⟩
            rw [hu] at hidx hc
            rw [hv] at hcb hc
            have Hc := Lib.hid hc
            clear hc hu hv h
            go_wp2_with fail
            refine (Hc.out _).mono ?_
            rintro e w' ⟨rfl, rfl⟩
            go_wp2_with fail
            go_ret
            exact ⟨rfl, BA⟩
          · rw [cgo_next hlt h] at hre
            rw [if_neg (by omega), if_neg (by omega)] at hc
            obtain ⟨u, hu⟩ : ∃ u, a k = u := ⟨_, rfl⟩
            obtain ⟨v, hv⟩ : ∃ v, b k = v := ⟨_, rfl⟩
            rw [hu] at hidx hc
            rw [hv] at hcb hc
            have Hc := Lib.hid hc
            have Hre := Lib.hid hre
            clear hc hu hv h hre
            go_wp2_with fail
            refine (Hc.out _).mono ?_
            rintro e w' ⟨rfl, rfl⟩
            go_wp2_with fail
            go_round
            case rel => exact ⟨k + 1, by omega, by go_num, Hre.out⟩
            case measure => simp [intOf]; omega
          · rw [cgo_gt hlt h] at hre
            subst hre
            rw [if_neg (by omega), if_pos h] at hc
            obtain ⟨u, hu⟩ : ∃ u, a k = u := ⟨_, rfl⟩
            obtain ⟨v, hv⟩ : ∃ v, b k = v := ⟨_, rfl⟩
            rw [hu] at hidx hc
            rw [hv] at hcb hc
            have Hc := Lib.hid hc
            clear hc hu hv h
            go_wp2_with fail
            refine (Hc.out _).mono ?_
            rintro e w' ⟨rfl, rfl⟩
            go_wp2_with fail
            go_ret
            exact ⟨rfl, BA⟩
        · have hk5 : k = 5 := by omega
          subst hk5
          have hr0 : r = 0 := hre
          subst hr0
          go_wp2_with fail
          go_ret
          exact ⟨rfl, BA⟩
    · have hr : gcmp na nb a b = 1 := by unfold gcmp; rw [if_neg (by omega), if_pos hn]
      rw [hr]
      have hc : Hid (∀ w, Calls Tryd.prog 44 #[.int .i64 na, .int .i64 nb] w fun e w' => e = .returned (.int .i64 1) ∧ w = w') := Lib.hid (fun w => by have := Hcmp.out na nb w; rw [if_neg (by omega), if_pos hn] at this; exact this)
      clear hr hn Hcmp
      go_enter Tryd.func14, Tryd.ntmps14
      go_wp2_with fail
      refine (hc.out _).mono ?_
      rintro e w' ⟨rfl, rfl⟩
      go_wp2_with fail
      go_ret
      exact ⟨rfl, ((Below.refl _ _).alloc (Nat.le_refl _) _).alloc (by simp) _⟩

set_option maxHeartbeats 1000000 in
theorem rcompare_any (na nb : Int) (a b : Nat → Int) (w : World) :
    Calls Tryd.prog 15 #[iv na a, iv nb b] w fun e w' => e = .returned (.int .i64 (gcmp na nb a b)) ∧ Below w.heap.size w w' := by
  rcases Int.lt_trichotomy na nb with hn | hn | hn
  · have hr : gcmp na nb a b = -1 := if_pos hn
    rw [hr]
    clear hr
    go_enter Tryd.func15, Tryd.ntmps15
    go_wp2_with fail
    go_ret
    exact ⟨rfl, ((Below.refl _ _).alloc (Nat.le_refl _) _).alloc (by simp) _⟩
  · subst hn
    have hr0 : gcmp na na a b = cgo a b 5 0 := by unfold gcmp; rw [if_neg (by omega), if_neg (by omega)]
    obtain ⟨r, hr⟩ : ∃ r, gcmp na na a b = r := ⟨_, rfl⟩
    rw [hr] at hr0 ⊢
    clear hr
    go_enter Tryd.func15, Tryd.ntmps15
    go_wp2_with fail
    have BA : Below w.heap.size w ((w.alloc (.cells #[.int .i64 na, .int .i64 (a 0), .int .i64 (a 1), .int .i64 (a 2), .int .i64 (a 3), .int .i64 (a 4)] 24)).alloc (.cells #[.int .i64 na, .int .i64 (b 0), .int .i64 (b 1), .int .i64 (b 2), .int .i64 (b 3), .int .i64 (b 4)] 24)) := ((Below.refl _ _).alloc (Nat.le_refl _) _).alloc (by simp) _
    have XA : Box ((w.alloc (.cells #[.int .i64 na, .int .i64 (a 0), .int .i64 (a 1), .int .i64 (a 2), .int .i64 (a 3), .int .i64 (a 4)] 24)).alloc (.cells #[.int .i64 na, .int .i64 (b 0), .int .i64 (b 1), .int .i64 (b 2), .int .i64 (b 3), .int .i64 (b 4)] 24)) w.heap.size #[.int .i64 na, .int .i64 (a 0), .int .i64 (a 1), .int .i64 (a 2), .int .i64 (a 3), .int .i64 (a 4)] 24 := (Box.new w _ _).alloc _
    have XB : Box ((w.alloc (.cells #[.int .i64 na, .int .i64 (a 0), .int .i64 (a 1), .int .i64 (a 2), .int .i64 (a 3), .int .i64 (a 4)] 24)).alloc (.cells #[.int .i64 na, .int .i64 (b 0), .int .i64 (b 1), .int .i64 (b 2), .int .i64 (b 3), .int .i64 (b 4)] 24)) (w.heap.size + 1) #[.int .i64 na, .int .i64 (b 0), .int .i64 (b 1), .int .i64 (b 2), .int .i64 (b 3), .int .i64 (b 4)] 24 := Box.at_ (by simp) _ _
    have HA := Lib.hid (fun k (hk : k < 5) => (XA.cell (1 + k)).trans (icell_row na a hk))
    have HB := Lib.hid (fun k (hk : k < 5) => (XB.cell (1 + k)).trans (icell_row na b hk))
    have hsz := XB.lt
    obtain ⟨W, hW⟩ : ∃ W, ((w.alloc (.cells #[.int .i64 na, .int .i64 (a 0), .int .i64 (a 1), .int .i64 (a 2), .int .i64 (a 3), .int .i64 (a 4)] 24)).alloc (.cells #[.int .i64 na, .int .i64 (b 0), .int .i64 (b 1), .int .i64 (b 2), .int .i64 (b 3), .int .i64 (b 4)] 24)) = W := ⟨_, rfl⟩
    rw [hW] at BA HA HB hsz ⊢
    clear XA XB hW
    go_loopw [5] (fun j wr => ∃ k : Nat, k ≤ 5 ∧ j = .int .i64 k ∧ (∃ d, wr = W.drewN d) ∧ r = cgo a b (5 - k) k) (fun j _ => 5 - (intOf j).toNat)
    case atStart => exact ⟨0, by omega, rfl, ⟨0, rfl⟩, hr0⟩
    case round =>
      obtain ⟨k, hk, rfl, ⟨d, rfl⟩, hre⟩ := hrel
      clear hr0
      by_cases hlt : k < 5
      · have hca := HA.out k hlt
        have hcb := HB.out k hlt
        rcases Int.lt_trichotomy (a k) (b k) with h | h | h
        · rw [cgo_lt hlt h] at hre
          subst hre
          obtain ⟨u, hu⟩ : ∃ u, a k = u := ⟨_, rfl⟩
          obtain ⟨v, hv⟩ : ∃ v, b k = v := ⟨_, rfl⟩
          rw [hu] at hca h
          rw [hv] at hcb h
          clear hu hv
          go_wp2_with fail
          go_quiet (fail)
          go_wp2_with fail
          go_ret
          exact ⟨rfl, by first | exact below_dn _ BA | exact below_dn _ (below_dn _ BA) | exact below_dn 1 (below_dn _ BA)⟩
        · rw [cgo_next hlt h] at hre
          rw [h] at hca
          obtain ⟨v, hv⟩ : ∃ v, b k = v := ⟨_, rfl⟩
          rw [hv] at hca hcb
          have Hre := Lib.hid hre
          clear hv h hre
          go_wp2_with fail
          go_quiet (fail)
          go_wp2_with fail
          go_quiet (fail)
          go_wp2_with fail
          exact ⟨⟨k + 1, by omega, by go_num, ⟨_, rfl⟩, Hre.out⟩, by simp [intOf]; omega⟩
        · rw [cgo_gt hlt h] at hre
          subst hre
          obtain ⟨u, hu⟩ : ∃ u, a k = u := ⟨_, rfl⟩
          obtain ⟨v, hv⟩ : ∃ v, b k = v := ⟨_, rfl⟩
          rw [hu] at hca h
          rw [hv] at hcb h
          clear hu hv
          go_wp2_with fail
          go_quiet (fail)
          go_wp2_with fail
          go_quiet (fail)
          go_wp2_with fail
          go_ret
          exact ⟨rfl, by first | exact below_dn _ BA | exact below_dn _ (below_dn _ BA) | exact below_dn _ (below_dn _ (below_dn _ BA)) | (simp only [World.drewN_drewN]; exact below_dn _ BA)⟩
      · have hk5 : k = 5 := by omega
        subst hk5
        have hr0 : r = 0 := hre
        subst hr0
        go_wp2_with fail
        go_ret
        exact ⟨rfl, below_dn _ BA⟩
  · have hr : gcmp na nb a b = 1 := by unfold gcmp; rw [if_neg (by omega), if_pos hn]
    rw [hr]
    clear hr
    go_enter Tryd.func15, Tryd.ntmps15
    go_wp2_with fail
    go_ret
    exact ⟨rfl, ((Below.refl _ _).alloc (Nat.le_refl _) _).alloc (by simp) _⟩
end Go.Proofs.YtacnhklhimogkaaDoor
