/- Package partition and its specification: numbers of classes; whether two elements are in one class. -/
import Derived.Test.YtbkmcibibppjeaaPtR
import Derived.WalkKit
import Derived.WalkSpells
import Derived.WalkLawsBesides
import Derived.Handy
import Derived.Deep.QuietTactic
import Derived.BigQuiet
import Derived.Outline
import Derived.Laws.BitsAllLaws
import Derived.IntWalk
import Derived.Lib.SmallJoins
import Derived.Lib.Hide
import Derived.Deep.DeepCutAuto
import Derived.LoopTactic
import Derived.Deep.RegionWith
namespace Go.Proofs.Ytbkmcibibppjeaa
set_option linter.unusedVariables false
set_option linter.unusedSimpArgs false
open Go.RowKit Part

theorem below_dn {B : Nat} {w W : World} (n : Nat) (h : Below B w W) : Below B w (W.drewN n) := ⟨h.os, h.tape, h.output, h.size, h.block⟩
theorem mx_from (a : Nat → Nat) {n : Nat} (h : Wf n a) : ∀ k i, i + k = n → mx (cnt a i) (((List.range n).map a).drop i) = cnt a n
  | 0, i, e => by
    rw [List.drop_eq_nil_of_le (by simp; omega)]
    have : i = n := by omega
    subst this; rfl
  | k + 1, i, e => by
    have hl : i < ((List.range n).map a).length := by simp; omega
    rw [List.drop_eq_getElem_cons hl]
    have e2 : ((List.range n).map a)[i] = a i := by simp
    rw [e2]
    show mx (max (cnt a i) (a i + 1)) _ = _
    have hw := h i (by omega)
    have hc : max (cnt a i) (a i + 1) = cnt a (i + 1) := by
      show _ = (if a i = cnt a i then cnt a i + 1 else cnt a i)
      split <;> omega
    rw [hc]
    exact mx_from a h k (i + 1) (by omega)
theorem mx_cnt (n : Nat) (a : Nat → Nat) (h : Wf n a) : mx 0 ((List.range n).map a) = cnt a n := by
  have h1 := mx_from a h n 0 (by omega)
  rw [List.drop_zero] at h1
  exact h1

theorem count_any (n : Nat) (f : Nat → Int) (hf : Good n f) (o : Option Addr) (cap : Nat) (w : World) (h : Lz w o n f) : Calls Try.prog 41 #[.slice o n cap] w fun e w' => e = .returned (.int .i64 ((cnt (nat f) n : Nat) : Int)) ∧ w = w' := by
  by_cases h0 : n = 0
  · subst h0
    exact ptcount_empty o cap w
  · obtain ⟨b, off, rfl, hb, hc⟩ := h (by omega)
    have hA : Arz w b off (zn ((List.range n).map (nat f))) := fun i hi => by
      have hi2 : i < n := by simpa [zn] using hi
      have e : (zn ((List.range n).map (nat f)))[i] = f i := by
        have h1 := hf.2.1 i hi2
        simp [zn, nat]
        omega
      rw [e]
      exact hc i hi2
    have h2 := ptcount_list ((List.range n).map (nat f)) (by simp; exact hf.1) (by
      intro x hx
      obtain ⟨i, hi, rfl⟩ := List.mem_map.1 hx
      have h1 := List.mem_range.1 hi
      have h3 := hf.2.2 i h1
      have h4 := cnt_small (nat f) i
      have := hf.1
      omega) b off cap w hA
    rw [mx_cnt n (nat f) hf.2.2] at h2
    simpa using h2

theorem rnum_any (n : Nat) (f : Nat → Int) (hf : Good n f) (o : Option Addr) (cap : Nat) (w : World) (h : Lz w o n f) : Calls Try.prog 42 #[.slice o n cap] w fun e w' => e = .returned (.int .i64 ((cnt (nat f) n : Nat) : Int)) ∧ w = w' := by
  by_cases h0 : n = 0
  · subst h0
    exact rptnum_empty o cap w
  · obtain ⟨b, off, rfl, hb, hc⟩ := h (by omega)
    have hA : Arz w b off (zn ((List.range n).map (nat f))) := fun i hi => by
      have hi2 : i < n := by simpa [zn] using hi
      have e : (zn ((List.range n).map (nat f)))[i] = f i := by
        have h1 := hf.2.1 i hi2
        simp [zn, nat]
        omega
      rw [e]
      exact hc i hi2
    have h2 := rptnum_list ((List.range n).map (nat f)) (by simp; exact hf.1) (by
      intro x hx
      obtain ⟨i, hi, rfl⟩ := List.mem_map.1 hx
      have h1 := List.mem_range.1 hi
      have h3 := hf.2.2 i h1
      have h4 := cnt_small (nat f) i
      have := hf.1
      omega) b off cap w hA
    rw [mx_cnt n (nat f) hf.2.2] at h2
    simpa using h2

theorem cc_bad (n : Nat) (f : Nat → Int) (c : Int) (hc : pcd n f = c) (h0 : c ≠ 0) (o : Option Addr) (cap : Nat) (w : World) (hL : Lz w o n f) : Calls Try.prog 15 #[.slice o n cap] w fun e w' => e = .returned (.tuple #[.int .i64 0, .int .i64 c]) ∧ w = w' := by
  have H := Lib.hid (check_any n f o cap w hL)
  rw [hc] at H
  have h1 : (c != 0) = true := by rw [bne_iff_ne]; exact h0
  clear hL hc h0
  go_enter Try.func15, Try.ntmps15
  go_wp2_with fail
  refine H.out.mono ?_
  rintro e w' ⟨rfl, rfl⟩
  go_wp2_with fail
  go_ret2
  exact ⟨rfl, rfl⟩
theorem cc_good (n : Nat) (f : Nat → Int) (hf : Good n f) (o : Option Addr) (cap : Nat) (w : World) (hL : Lz w o n f) : Calls Try.prog 15 #[.slice o n cap] w fun e w' => e = .returned (.tuple #[.int .i64 ((cnt (nat f) n : Nat) : Int), .int .i64 0]) ∧ w = w' := by
  have H := Lib.hid (check_any n f o cap w hL)
  rw [(pcd_zero n f).2 hf] at H
  have HC := Lib.hid (count_any n f hf o cap w hL)
  clear hL hf
  go_enter Try.func15, Try.ntmps15
  go_wp2_with fail
  refine H.out.mono ?_
  rintro e w' ⟨rfl, rfl⟩
  go_wp2_with fail
  refine HC.out.mono ?_
  rintro e w' ⟨rfl, rfl⟩
  go_wp2_with fail
  go_ret2
  exact ⟨rfl, rfl⟩

theorem rcc_bad (n : Nat) (f : Nat → Int) (c : Int) (hc : pcd n f = c) (h0 : c ≠ 0) (o : Option Addr) (cap : Nat) (w : World) (hL : Lz w o n f) : Calls Try.prog 16 #[.slice o n cap] w fun e w' => e = .returned (.tuple #[.int .i64 0, .int .i64 c]) ∧ w = w' := by
  have H := Lib.hid (rcheck_any n f o cap w hL)
  rw [hc] at H
  have h1 : (c != 0) = true := by rw [bne_iff_ne]; exact h0
  clear hL hc h0
  go_enter Try.func16, Try.ntmps16
  go_wp2_with fail
  refine H.out.mono ?_
  rintro e w' ⟨rfl, rfl⟩
  go_wp2_with fail
  go_ret2
  exact ⟨rfl, rfl⟩
theorem rcc_good (n : Nat) (f : Nat → Int) (hf : Good n f) (o : Option Addr) (cap : Nat) (w : World) (hL : Lz w o n f) : Calls Try.prog 16 #[.slice o n cap] w fun e w' => e = .returned (.tuple #[.int .i64 ((cnt (nat f) n : Nat) : Int), .int .i64 0]) ∧ w = w' := by
  have H := Lib.hid (rcheck_any n f o cap w hL)
  rw [(pcd_zero n f).2 hf] at H
  have HC := Lib.hid (rnum_any n f hf o cap w hL)
  clear hL hf
  go_enter Try.func16, Try.ntmps16
  go_wp2_with fail
  refine H.out.mono ?_
  rintro e w' ⟨rfl, rfl⟩
  go_wp2_with fail
  refine HC.out.mono ?_
  rintro e w' ⟨rfl, rfl⟩
  go_wp2_with fail
  go_ret2
  exact ⟨rfl, rfl⟩

theorem sm_bad (n : Nat) (f : Nat → Int) (c : Int) (hc : pcd n f = c) (h0 : c ≠ 0) (x y : Int) (o : Option Addr) (cap : Nat) (w : World) (hL : Lz w o n f) : Calls Try.prog 22 #[.slice o n cap, .int .i64 x, .int .i64 y] w fun e w' => e = .returned (.tuple #[.bool false, .int .i64 c]) ∧ w = w' := by
  have H := Lib.hid (check_any n f o cap w hL)
  rw [hc] at H
  have h1 : (c != 0) = true := by rw [bne_iff_ne]; exact h0
  clear hL hc h0
  go_enter Try.func22, Try.ntmps22
  go_wp2_with fail
  refine H.out.mono ?_
  rintro e w' ⟨rfl, rfl⟩
  go_wp2_with fail
  go_ret2
  exact ⟨rfl, rfl⟩
theorem sm_out (n : Nat) (f : Nat → Int) (hf : Good n f) (x y : Int) (hx : x < 0 ∨ (n : Int) ≤ x ∨ y < 0 ∨ (n : Int) ≤ y) (o : Option Addr) (cap : Nat) (w : World) (hL : Lz w o n f) : Calls Try.prog 22 #[.slice o n cap, .int .i64 x, .int .i64 y] w fun e w' => e = .returned (.tuple #[.bool false, .int .i64 2]) ∧ w = w' := by
  have H := Lib.hid (check_any n f o cap w hL)
  rw [(pcd_zero n f).2 hf] at H
  clear hL hf
  by_cases h1 : x < 0
  · clear hx
    go_enter Try.func22, Try.ntmps22
    go_wp2_with fail
    refine H.out.mono ?_
    rintro e w' ⟨rfl, rfl⟩
    go_wp2_with fail
    go_ret2
    exact ⟨rfl, rfl⟩
  · have g1 : 0 ≤ x := by omega
    by_cases h2 : (n : Int) ≤ x
    · clear hx h1
      go_enter Try.func22, Try.ntmps22
      go_wp2_with fail
      refine H.out.mono ?_
      rintro e w' ⟨rfl, rfl⟩
      go_wp2_with fail
      go_ret2
      exact ⟨rfl, rfl⟩
    · have g2 : x < (n : Int) := by omega
      by_cases h3 : y < 0
      · clear hx h1 h2
        go_enter Try.func22, Try.ntmps22
        go_wp2_with fail
        refine H.out.mono ?_
        rintro e w' ⟨rfl, rfl⟩
        go_wp2_with fail
        go_ret2
        exact ⟨rfl, rfl⟩
      · have g3 : 0 ≤ y := by omega
        have g4 : (n : Int) ≤ y := by omega
        clear hx h1 h2 h3
        go_enter Try.func22, Try.ntmps22
        go_wp2_with fail
        refine H.out.mono ?_
        rintro e w' ⟨rfl, rfl⟩
        go_wp2_with fail
        go_ret2
        exact ⟨rfl, rfl⟩
set_option maxHeartbeats 1000000 in
theorem sm_in (n : Nat) (f : Nat → Int) (hf : Good n f) (x y : Nat) (hx : x < n) (hy : y < n) (o : Option Addr) (cap : Nat) (w : World) (hL : Lz w o n f) : Calls Try.prog 22 #[.slice o n cap, .int .i64 (x : Int), .int .i64 (y : Int)] w fun e w' => e = .returned (.tuple #[.bool (f x == f y), .int .i64 0]) ∧ Below w.heap.size w w' := by
  have H := Lib.hid (check_any n f o cap w hL)
  rw [(pcd_zero n f).2 hf] at H
  obtain ⟨b, off, rfl, hb, hc⟩ := hL (by omega)
  have c1 := hc x hx
  have c2 := hc y hy
  have hn := hf.1
  obtain ⟨u, hu⟩ : ∃ u, f x = u := ⟨_, rfl⟩
  obtain ⟨v, hv⟩ : ∃ v, f y = v := ⟨_, rfl⟩
  rw [hu] at c1 ⊢
  rw [hv] at c2 ⊢
  clear hL hf hc hu hv
  have i1 : (x : Int) < (n : Int) := by omega
  have i2 : (y : Int) < (n : Int) := by omega
  go_enter Try.func22, Try.ntmps22
  go_wp2_with fail
  refine H.out.mono ?_
  rintro e w' ⟨rfl, rfl⟩
  go_wp2_with fail
  go_quiet (fail)
  go_wp2_with fail
  go_ret2
  exact ⟨rfl, by first | exact Below.refl _ _ | exact (Below.refl _ _).drew | exact below_dn _ (Below.refl _ _)⟩

theorem rsm_bad (n : Nat) (f : Nat → Int) (c : Int) (hc : pcd n f = c) (h0 : c ≠ 0) (x y : Int) (o : Option Addr) (cap : Nat) (w : World) (hL : Lz w o n f) : Calls Try.prog 23 #[.slice o n cap, .int .i64 x, .int .i64 y] w fun e w' => e = .returned (.tuple #[.bool false, .int .i64 c]) ∧ w = w' := by
  have H := Lib.hid (rcheck_any n f o cap w hL)
  rw [hc] at H
  have h1 : (c != 0) = true := by rw [bne_iff_ne]; exact h0
  clear hL hc h0
  go_enter Try.func23, Try.ntmps23
  go_wp2_with fail
  refine H.out.mono ?_
  rintro e w' ⟨rfl, rfl⟩
  go_wp2_with fail
  go_ret2
  exact ⟨rfl, rfl⟩
theorem rsm_out (n : Nat) (f : Nat → Int) (hf : Good n f) (x y : Int) (hx : x < 0 ∨ (n : Int) ≤ x ∨ y < 0 ∨ (n : Int) ≤ y) (o : Option Addr) (cap : Nat) (w : World) (hL : Lz w o n f) : Calls Try.prog 23 #[.slice o n cap, .int .i64 x, .int .i64 y] w fun e w' => e = .returned (.tuple #[.bool false, .int .i64 2]) ∧ w = w' := by
  have H := Lib.hid (rcheck_any n f o cap w hL)
  rw [(pcd_zero n f).2 hf] at H
  clear hL hf
  by_cases h1 : x < 0
  · clear hx
    go_enter Try.func23, Try.ntmps23
    go_wp2_with fail
    refine H.out.mono ?_
    rintro e w' ⟨rfl, rfl⟩
    go_wp2_with fail
    go_ret2
    exact ⟨rfl, rfl⟩
  · have g1 : 0 ≤ x := by omega
    by_cases h2 : (n : Int) ≤ x
    · clear hx h1
      go_enter Try.func23, Try.ntmps23
      go_wp2_with fail
      refine H.out.mono ?_
      rintro e w' ⟨rfl, rfl⟩
      go_wp2_with fail
      go_ret2
      exact ⟨rfl, rfl⟩
    · have g2 : x < (n : Int) := by omega
      by_cases h3 : y < 0
      · clear hx h1 h2
        go_enter Try.func23, Try.ntmps23
        go_wp2_with fail
        refine H.out.mono ?_
        rintro e w' ⟨rfl, rfl⟩
        go_wp2_with fail
        go_ret2
        exact ⟨rfl, rfl⟩
      · have g3 : 0 ≤ y := by omega
        have g4 : (n : Int) ≤ y := by omega
        clear hx h1 h2 h3
        go_enter Try.func23, Try.ntmps23
        go_wp2_with fail
        refine H.out.mono ?_
        rintro e w' ⟨rfl, rfl⟩
        go_wp2_with fail
        go_ret2
        exact ⟨rfl, rfl⟩
set_option maxHeartbeats 1000000 in
theorem rsm_in (n : Nat) (f : Nat → Int) (hf : Good n f) (x y : Nat) (hx : x < n) (hy : y < n) (o : Option Addr) (cap : Nat) (w : World) (hL : Lz w o n f) : Calls Try.prog 23 #[.slice o n cap, .int .i64 (x : Int), .int .i64 (y : Int)] w fun e w' => e = .returned (.tuple #[.bool (f x == f y), .int .i64 0]) ∧ Below w.heap.size w w' := by
  have H := Lib.hid (rcheck_any n f o cap w hL)
  rw [(pcd_zero n f).2 hf] at H
  obtain ⟨b, off, rfl, hb, hc⟩ := hL (by omega)
  have c1 := hc x hx
  have c2 := hc y hy
  have hn := hf.1
  obtain ⟨u, hu⟩ : ∃ u, f x = u := ⟨_, rfl⟩
  obtain ⟨v, hv⟩ : ∃ v, f y = v := ⟨_, rfl⟩
  rw [hu] at c1 ⊢
  rw [hv] at c2 ⊢
  clear hL hf hc hu hv
  have i1 : (x : Int) < (n : Int) := by omega
  have i2 : (y : Int) < (n : Int) := by omega
  go_enter Try.func23, Try.ntmps23
  go_wp2_with fail
  refine H.out.mono ?_
  rintro e w' ⟨rfl, rfl⟩
  go_wp2_with fail
  go_quiet (fail)
  go_wp2_with fail
  go_ret2
  exact ⟨rfl, by first | exact Below.refl _ _ | exact (Below.refl _ _).drew | exact below_dn _ (Below.refl _ _)⟩

end Go.Proofs.Ytbkmcibibppjeaa
