/- Package permutation: Odd, Set. -/
import Derived.Test.YtgppdbiimlbpjaaDoorRwE
import Derived.WalkKit
import Derived.WalkSpells
import Derived.WalkLawsBesides
import Derived.Handy
import Derived.Deep.QuietTactic
import Derived.BigQuiet
import Derived.Outline
import Derived.Laws.BitsAllLaws
import Derived.IntWalk
import Derived.Lib.SmallJoins
import Derived.Lib.Hide
import Derived.Deep.DeepCutAuto
import Derived.LoopTactic
import Derived.Deep.RegionWith
namespace Go.Proofs.YtgppdbiimlbpjaaDoor
set_option linter.unusedVariables false
set_option linter.unusedSimpArgs false
open Go.RowKit

/-- Whether the inversions of p with the m next places are odd. -/
def orow (a : Nat → Nat) (p : Nat) : Nat → Bool
  | 0 => false
  | m + 1 => orow a p m != decide (a (p + 1 + m) < a p)
/-- .. with all places, for the first p places. -/
def oall (n : Nat) (a : Nat → Nat) : Nat → Bool
  | 0 => false
  | p + 1 => oall n a p != orow a p (n - 1 - p)
theorem bne_step (x y z : Bool) : ((x != y) != z) = (x != (y != z)) := by cases x <;> cases y <;> cases z <;> rfl

theorem odd_bad (n : Nat) (x : Nat → Int) (c : Int) (hc : pcode n x = c) (h0 : c ≠ 0) (o : Option Addr) (cap : Nat) (w : World) (hL : Lq w o n cap x) : Calls Tryd.prog 17 #[.slice o n cap] w fun e w' => e = .returned (.tuple #[.bool false, .int .i64 c]) ∧ Below w.heap.size w w' := by
  have H := Lib.hid (check_any n x o cap w hL)
  rw [hc] at H
  have h1 : (c != 0) = true := by rw [bne_iff_ne]; exact h0
  clear hL hc h0
  go_enter Tryd.func17, Tryd.ntmps17
  go_wp2_with fail
  refine H.out.mono ?_
  rintro e w' ⟨rfl, rfl⟩
  go_wp2_with fail
  go_ret2
  exact ⟨rfl, Below.refl _ _⟩

set_option maxHeartbeats 1000000 in
theorem odd_good (n : Nat) (a : Nat → Nat) (ha : Good n a) (o : Option Addr) (cap : Nat) (w : World) (hL : Lq w o n cap (zf a)) : Calls Tryd.prog 17 #[.slice o n cap] w fun e w' => e = .returned (.tuple #[.bool (oall n a n), .int .i64 0]) ∧ Below w.heap.size w w' := by
  have H := Lib.hid (check_any n (zf a) o cap w hL)
  rw [good_code ha] at H
  have HL := Lib.hid hL.1
  have hn := ha.hi
  clear hL ha
  go_enter Tryd.func17, Tryd.ntmps17
  go_wp2_with fail
  refine H.out.mono ?_
  rintro e w' ⟨rfl, rfl⟩
  go_wp2_with fail
  go_loopw [5, 15] (fun v j wr => ∃ p : Nat, p ≤ n ∧ j = .int .i64 (p : Int) ∧ v = .bool (oall n a p) ∧ ∃ d, wr = w.drewN d) (fun _ j _ => n - (intOf j).toNat)
  case atStart => exact ⟨0, by omega, rfl, rfl, 0, rfl⟩
  case round =>
    obtain ⟨p, hp, rfl, rfl, d, rfl⟩ := hrel
    obtain ⟨g, hg⟩ : ∃ g, oall n a p = g := ⟨_, rfl⟩
    rw [hg]
    have HG := Lib.hid hg
    clear hg
    by_cases hlt : p < n
    · obtain ⟨bl, ofs, rfl, hbl, hcl⟩ := HL.out (by omega)
      have c1 := hcl p hlt
      unfold zf at c1
      have HC := Lib.hid hcl
      clear hcl
      obtain ⟨x, hx⟩ : ∃ x, a p = x := ⟨_, rfl⟩
      rw [hx] at c1
      have HX := Lib.hid hx
      clear hx
      have hp1 : (p : Int) < (n : Int) := by omega
      go_wp2_with fail
      go_loopw [5, 7] (fun v j wr => ∃ m : Nat, p + 1 + m ≤ n ∧ j = .int .i64 ((p + 1 + m : Nat) : Int) ∧ v = .bool (g != orow a p m) ∧ ∃ d, wr = w.drewN d) (fun _ j _ => n - (intOf j).toNat)
      case atStart => exact ⟨0, by omega, by go_num, by simp [orow], d, rfl⟩
      case round =>
        obtain ⟨m, hm, rfl, rfl, d, rfl⟩ := hrel
        obtain ⟨q, hq⟩ : ∃ q, p + 1 + m = q := ⟨_, rfl⟩
        rw [hq] at hm ⊢
        obtain ⟨f, hf⟩ : ∃ f, (g != orow a p m) = f := ⟨_, rfl⟩
        rw [hf]
        have HF := Lib.hid hf
        have HQ := Lib.hid hq
        clear hf hq
        by_cases hqn : q < n
        · have c2 := HC.out q hqn
          unfold zf at c2
          obtain ⟨y, hy⟩ : ∃ y, a q = y := ⟨_, rfl⟩
          rw [hy] at c2
          have HY := Lib.hid hy
          clear hy
          have hq1 : (q : Int) < (n : Int) := by omega
          have hnew : (g != orow a p (m + 1)) = (f != decide (y < x)) := by
            show (g != (orow a p m != decide (a (p + 1 + m) < a p))) = _
            rw [← bne_step, HF.out, HQ.out, HX.out, HY.out]
          by_cases hxy : y < x
          · rw [decide_eq_true hxy] at hnew
            have HNew := Lib.hid hnew
            have hxy' : (y : Int) < (x : Int) := by omega
            clear hnew
            go_wp2_with fail
            go_quiet (fail)
            go_wp2_with fail
            go_roundw
            case rel => exact ⟨m + 1, by have := HQ.out; omega, by have := HQ.out; rw [← this]; go_num, by rw [HNew.out]; first | rfl | (cases f <;> rfl), _, rfl⟩
            case measure => simp [intOf]; omega
          · rw [decide_eq_false hxy] at hnew
            have HNew := Lib.hid hnew
            have hxy' : ¬ (y : Int) < (x : Int) := by omega
            have hxy2 : (x : Int) ≤ (y : Int) := by omega
            have hd : decide (y < x) = false := decide_eq_false hxy
            clear hnew hxy
            go_wp2_with fail
            go_quiet (fail)
            go_wp2_with fail
            go_roundw
            case rel => exact ⟨m + 1, by have := HQ.out; omega, by have := HQ.out; rw [← this]; go_num, by rw [HNew.out]; first | rfl | (cases f <;> rfl), _, rfl⟩
            case measure => simp [intOf]; omega
        · have e : q = n := by omega
          subst e
          clear hqn
          have hend : oall q a (p + 1) = f := by
            have e : q - 1 - p = m := by have := HQ.out; omega
            show (oall q a p != orow a p (q - 1 - p)) = f
            rw [HG.out, e, HF.out]
          have HEnd := Lib.hid hend
          clear hend
          go_wp2_with fail
          go_roundw
          case rel => exact ⟨p + 1, by omega, by go_num, by rw [HEnd.out], _, rfl⟩
          case measure => simp [intOf]; omega
    · have e : p = n := by omega
      subst e
      go_wp2_with fail
      go_ret2
      exact ⟨by rw [HG.out]; rfl, below_dn _ (Below.refl _ _)⟩
/-- The image of a set: what the loop over the first m processes has gathered. -/
def img (f : Nat → Nat) (s : Nat) : Nat → Nat
  | 0 => 0
  | m + 1 => img f s m ||| s / 2 ^ m % 2 * 2 ^ f m
theorem or_fin : ∀ v : Fin 32, ∀ t : Fin 2, ∀ x : Fin 5, bits .or .i64 (v.val : Int) ((t.val * 2 ^ x.val : Nat) : Int) = ((v.val ||| t.val * 2 ^ x.val : Nat) : Int) ∧ v.val ||| t.val * 2 ^ x.val < 32 ∧ wrap64 ((t.val : Int) * (2 : Int) ^ x.val) = ((t.val * 2 ^ x.val : Nat) : Int) := by decide +kernel
theorem and_fin : ∀ s : Fin 32, ∀ m : Fin 5, bits .and .i64 ((s.val : Int) / (2 : Int) ^ m.val) 1 = ((s.val / 2 ^ m.val % 2 : Nat) : Int) := by decide +kernel
theorem img_lt (f : Nat → Nat) (s : Nat) : ∀ m, (∀ p, p < m → f p < 5) → img f s m < 32
  | 0, _ => by show 0 < 32; omega
  | m + 1, h => (or_fin ⟨img f s m, img_lt f s m fun p hp => h p (by omega)⟩ ⟨s / 2 ^ m % 2, Nat.mod_lt _ (by omega)⟩ ⟨f m, h m (by omega)⟩).2.1

theorem set_bad (n : Nat) (x : Nat → Int) (c : Int) (hc : pcode n x = c) (h0 : c ≠ 0) (z : Int) (o : Option Addr) (cap : Nat) (w : World) (hL : Lq w o n cap x) : Calls Tryd.prog 29 #[.slice o n cap, .int .i64 z] w fun e w' => e = .returned (.tuple #[.int .i64 0, .int .i64 c]) ∧ Below w.heap.size w w' := by
  have H := Lib.hid (check_any n x o cap w hL)
  rw [hc] at H
  have h1 : (c != 0) = true := by rw [bne_iff_ne]; exact h0
  clear hL hc h0
  go_enter Tryd.func29, Tryd.ntmps29
  go_wp2_with fail
  refine H.out.mono ?_
  rintro e w' ⟨rfl, rfl⟩
  go_wp2_with fail
  go_ret2
  exact ⟨rfl, Below.refl _ _⟩

theorem set_out (n : Nat) (a : Nat → Nat) (ha : Good n a) (z : Int) (hz : z < 0 ∨ ((2 ^ n : Nat) : Int) ≤ z) (o : Option Addr) (cap : Nat) (w : World) (hL : Lq w o n cap (zf a)) : Calls Tryd.prog 29 #[.slice o n cap, .int .i64 z] w fun e w' => e = .returned (.tuple #[.int .i64 0, .int .i64 2]) ∧ Below w.heap.size w w' := by
  have H := Lib.hid (check_any n (zf a) o cap w hL)
  rw [good_code ha] at H
  have hn := ha.hi
  have h32 : 2 ^ n ≤ 32 := Nat.pow_le_pow_right (n := 2) (by omega) hn
  have e : ((2 : Int) ^ n) = ((2 ^ n : Nat) : Int) := by simp
  have hw : wrap64 (2 ^ n) = ((2 ^ n : Nat) : Int) := by
    rw [e]
    generalize 2 ^ n = q at h32 ⊢
    exact IntWalk.wrap64_in _ (by omega)
  clear hL ha e
  by_cases h1 : z < 0
  · clear hz
    go_enter Tryd.func29, Tryd.ntmps29
    go_wp2_with fail
    refine H.out.mono ?_
    rintro e w' ⟨rfl, rfl⟩
    go_wp2_with fail
    go_ret2
    exact ⟨rfl, Below.refl _ _⟩
  · have h2 : 0 ≤ z := by omega
    have h3 : wrap64 (2 ^ n) ≤ z := by
      rw [hw]
      generalize 2 ^ n = q at hz h32 ⊢
      omega
    clear hz h1 hw
    go_enter Tryd.func29, Tryd.ntmps29
    go_wp2_with fail
    refine H.out.mono ?_
    rintro e w' ⟨rfl, rfl⟩
    go_wp2_with fail
    go_ret2
    exact ⟨rfl, Below.refl _ _⟩
set_option maxHeartbeats 1000000 in
theorem set_good (n : Nat) (a : Nat → Nat) (ha : Good n a) (s : Nat) (hs : s < 2 ^ n) (o : Option Addr) (cap : Nat) (w : World) (hL : Lq w o n cap (zf a)) : Calls Tryd.prog 29 #[.slice o n cap, .int .i64 (s : Int)] w fun e w' => e = .returned (.tuple #[.int .i64 ((img a s n : Nat) : Int), .int .i64 0]) ∧ Below w.heap.size w w' := by
  have H := Lib.hid (check_any n (zf a) o cap w hL)
  rw [good_code ha] at H
  have hn := ha.hi
  have h32 : 2 ^ n ≤ 32 := Nat.pow_le_pow_right (n := 2) (by omega) hn
  have hs32 : s < 32 := by omega
  have e : ((2 : Int) ^ n) = ((2 ^ n : Nat) : Int) := by simp
  have hw : (s : Int) < wrap64 (2 ^ n) := by rw [e, IntWalk.wrap64_in _ (by omega)]; omega
  have HL := Lib.hid hL.1
  have HA := Lib.hid ha.perm.lt
  clear hL ha e hs h32
  go_enter Tryd.func29, Tryd.ntmps29
  go_wp2_with fail
  refine H.out.mono ?_
  rintro e w' ⟨rfl, rfl⟩
  go_wp2_with fail
  go_loop [7, 26] (fun c j => ∃ k : Nat, k ≤ n ∧ j = .int .i64 k ∧ c = .int .i64 ((img a s k : Nat) : Int)) (fun _ j => n - (intOf j).toNat)
  case atStart => exact ⟨0, by omega, rfl, rfl⟩
  case round =>
    clear hw
    obtain ⟨m, hm, rfl, rfl⟩ := hrel
    by_cases hlt : m < n
    · obtain ⟨bl, ofs, rfl, hbl, hcl⟩ := HL.out (by omega)
      have c1 := hcl m hlt
      unfold zf at c1
      have hx5 : a m < 5 := by have := HA.out m hlt; omega
      have hv32 := img_lt a s m (fun p hp => by have := HA.out p (by omega); omega)
      have h1 := and_fin ⟨s, hs32⟩ ⟨m, by omega⟩
      have h2 := or_fin ⟨img a s m, hv32⟩ ⟨s / 2 ^ m % 2, Nat.mod_lt _ (by omega)⟩ ⟨a m, hx5⟩
      simp only at h1 h2
      have h3 : img a s m ||| s / 2 ^ m % 2 * 2 ^ a m = img a s (m + 1) := rfl
      rw [h3] at h2
      obtain ⟨x, hx⟩ : ∃ x, a m = x := ⟨_, rfl⟩
      obtain ⟨v, hv⟩ : ∃ x, img a s m = x := ⟨_, rfl⟩
      obtain ⟨v', hv'⟩ : ∃ x, img a s (m + 1) = x := ⟨_, rfl⟩
      obtain ⟨t, ht⟩ : ∃ x, s / 2 ^ m % 2 = x := ⟨_, rfl⟩
      have ht2 : t < 2 := ht ▸ Nat.mod_lt _ (by omega)
      rw [hx] at c1 h2 hx5
      rw [hv] at h2 hv32 ⊢
      rw [hv'] at h2
      rw [ht] at h1 h2
      have HV := Lib.hid hv'
      obtain ⟨u, hu⟩ : ∃ u, t * 2 ^ x = u := ⟨_, rfl⟩
      rw [hu] at h2
      obtain ⟨h4, _, h5⟩ := h2
      have hm1 : (m : Int) < (n : Int) := by omega
      clear h3 hcl hx hv hv' ht hu
      go_wp2_with fail
      go_round
      case rel => exact ⟨m + 1, by omega, by go_num, by rw [HV.out]⟩
      case measure => simp [intOf]; omega
    · have e : m = n := by omega
      subst e
      go_wp2_with fail
      go_ret2
      exact ⟨rfl, Below.refl _ _⟩

end Go.Proofs.YtgppdbiimlbpjaaDoor
