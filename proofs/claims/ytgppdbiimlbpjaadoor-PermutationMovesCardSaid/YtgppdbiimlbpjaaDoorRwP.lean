/- The specification's Set and Vector. -/
import Derived.Test.YtgppdbiimlbpjaaDoorRwO
import Derived.WalkKit
import Derived.WalkSpells
import Derived.WalkLawsBesides
import Derived.Handy
import Derived.Deep.QuietTactic
import Derived.BigQuiet
import Derived.Outline
import Derived.Laws.BitsAllLaws
import Derived.IntWalk
import Derived.Lib.SmallJoins
import Derived.Lib.Hide
import Derived.Deep.DeepCutAuto
import Derived.LoopTactic
import Derived.Deep.RegionWith
import Derived.Laws.CopyOwn
import Derived.Maps.OwnOps
import Derived.Maps.OwnSet
import Derived.Laws.OwnMore
import Derived.Maps.AppendAt
import Derived.Test.YtgppdbiimlbpjaaDoorShelF
import Derived.RangeFuncNested
import Derived.RangeFuncBound
import Derived.RangeFuncCalls
import Derived.RangeFuncLeaves
import Derived.RangeFuncBox
import Derived.RangeFuncFrom
import Derived.Shelf.Abstract
import Derived.Shelf.RegionOpen
import Derived.OwnWalkIn
import Derived.TacticsInMore
import Derived.LoopNIn
import Derived.LoopIn
namespace Go.Proofs.YtgppdbiimlbpjaaDoor
set_option linter.unusedVariables false
set_option linter.unusedSimpArgs false
open Go.RowKit

theorem rset_bad (n : Nat) (x : Nat → Int) (c : Int) (hc : pcode n x = c) (h0 : c ≠ 0) (z : Int) (o : Option Addr) (cap : Nat) (w : World) (hL : Lq w o n cap x) : Calls Tryd.prog 30 #[.slice o n cap, .int .i64 z] w fun e w' => e = .returned (.tuple #[.int .i64 0, .int .i64 c]) ∧ Below w.heap.size w w' := by
  have H := Lib.hid (rcheck_any n x o cap w hL.1)
  rw [hc] at H
  have h1 : (c != 0) = true := by rw [bne_iff_ne]; exact h0
  clear hL hc h0
  go_enter Tryd.func30, Tryd.ntmps30
  go_wp2_with fail
  refine H.out.mono ?_
  rintro e w' ⟨rfl, hbc⟩
  have HBC := Lib.hid hbc
  clear hbc
  go_wp2_with fail
  go_ret2
  exact ⟨rfl, HBC.out⟩


theorem rset_out (n : Nat) (a : Nat → Nat) (ha : Good n a) (z : Int) (hz : z < 0 ∨ ((2 ^ n : Nat) : Int) ≤ z) (o : Option Addr) (cap : Nat) (w : World) (hL : Lq w o n cap (zf a)) : Calls Tryd.prog 30 #[.slice o n cap, .int .i64 z] w fun e w' => e = .returned (.tuple #[.int .i64 0, .int .i64 2]) ∧ Below w.heap.size w w' := by
  have H := Lib.hid (rcheck_any n (zf a) o cap w hL.1)
  rw [good_code ha] at H
  have hn := ha.hi
  have h32 : 2 ^ n ≤ 32 := Nat.pow_le_pow_right (n := 2) (by omega) hn
  have e : ((2 : Int) ^ n) = ((2 ^ n : Nat) : Int) := by simp
  have hw : wrap64 (2 ^ n) = ((2 ^ n : Nat) : Int) := by
    rw [e]
    generalize 2 ^ n = q at h32 ⊢
    exact IntWalk.wrap64_in _ (by omega)
  clear hL ha e
  by_cases h1 : z < 0
  · clear hz
    go_enter Tryd.func30, Tryd.ntmps30
    go_wp2_with fail
    refine H.out.mono ?_
    rintro e w' ⟨rfl, hbc⟩
    have HBC := Lib.hid hbc
    clear hbc
    go_wp2_with fail
    go_ret2
    exact ⟨rfl, HBC.out⟩
  · have h2 : 0 ≤ z := by omega
    have h3 : wrap64 (2 ^ n) ≤ z := by
      rw [hw]
      generalize 2 ^ n = q at hz h32 ⊢
      omega
    clear hz h1 hw
    go_enter Tryd.func30, Tryd.ntmps30
    go_wp2_with fail
    refine H.out.mono ?_
    rintro e w' ⟨rfl, hbc⟩
    have HBC := Lib.hid hbc
    clear hbc
    go_wp2_with fail
    go_ret2
    exact ⟨rfl, HBC.out⟩
theorem rvecr_bad (n : Nat) (x : Nat → Int) (c : Int) (hc : pcode n x = c) (h0 : c ≠ 0) (m : Nat) (p : Option Addr) (cap' : Nat) (o : Option Addr) (cap : Nat) (w : World) (hL : Lq w o n cap x) : Calls Tryd.prog 32 #[.slice o n cap, .slice p m cap'] w (QRes 0 (fun _ => 0) c w) := by
  have H := Lib.hid (rcheck_any n x o cap w hL.1)
  rw [hc] at H
  have h1 : (c != 0) = true := by rw [bne_iff_ne]; exact h0
  clear hL hc h0
  go_enter Tryd.func32, Tryd.ntmps32
  go_wp2_with fail
  refine H.out.mono ?_
  rintro e w' ⟨rfl, hbc⟩
  have HBC := Lib.hid hbc
  clear hbc
  
  go_wp2_with fail
  go_ret2
  exact ⟨_, _, rfl, ⟨Lz.nil, by omega⟩, HBC.out⟩

theorem rvecr_shape (n m : Nat) (a : Nat → Nat) (ha : Good n a) (hnm : m ≠ n) (o p : Option Addr) (cap cap' : Nat) (w : World) (hL : Lq w o n cap (zf a)) : Calls Tryd.prog 32 #[.slice o n cap, .slice p m cap'] w (QRes 0 (fun _ => 0) 15 w) := by
  have H := Lib.hid (rcheck_any n (zf a) o cap w hL.1)
  rw [good_code ha] at H
  have h1 : (m == n) = false := by simpa using hnm
  have h2 : ((m : Int) != (n : Int)) = true := by rw [bne_iff_ne]; omega
  clear hL ha hnm
  go_enter Tryd.func32, Tryd.ntmps32
  go_wp2_with fail
  refine H.out.mono ?_
  rintro e w' ⟨rfl, hbc⟩
  have HBC := Lib.hid hbc
  clear hbc
  go_wp2_with fail
  go_ret2
  exact ⟨_, _, rfl, ⟨Lz.nil, by omega⟩, HBC.out⟩


theorem or1_fin : ∀ v : Fin 32, ∀ x : Fin 5, bits .or .i64 (v.val : Int) ((2 ^ x.val : Nat) : Int) = ((v.val ||| 2 ^ x.val : Nat) : Int) ∧ v.val ||| 2 ^ x.val < 32 ∧ wrap64 ((2 : Int) ^ x.val) = ((2 ^ x.val : Nat) : Int) := by decide +kernel
set_option maxHeartbeats 1000000 in
theorem image_ok (n : Nat) (hn : n ≤ 5) (a : Nat → Nat) (hlt : ∀ p, p < n → a p < n) (s : Nat) (hs32 : s < 32) (o : Option Addr) (cap : Nat) (w : World) (hL : Lz w o n (zf a)) : Calls Tryd.prog 56 #[.slice o n cap, .int .i64 (s : Int)] w fun e w' => e = .returned (.int .i64 ((img a s n : Nat) : Int)) ∧ Below w.heap.size w w' := by
  have HL := Lib.hid hL
  have HA := Lib.hid hlt
  clear hL hlt
  go_enter Tryd.func56, Tryd.ntmps56
  go_wp2_with fail
  go_loop [5, 6] (fun c j => ∃ k : Nat, k ≤ n ∧ j = .int .i64 k ∧ c = .int .i64 ((img a s k : Nat) : Int)) (fun _ j => n - (intOf j).toNat)
  case atStart => exact ⟨0, by omega, rfl, rfl⟩
  case round =>
    obtain ⟨m, hm, rfl, rfl⟩ := hrel
    by_cases hlt : m < n
    · obtain ⟨bl, ofs, rfl, hbl, hcl⟩ := HL.out (by omega)
      have c1 := hcl m hlt
      unfold zf at c1
      have hx5 : a m < 5 := by have := HA.out m hlt; omega
      have hv32 := img_lt a s m (fun p hp => by have := HA.out p (by omega); omega)
      have h1 := and_fin ⟨s, hs32⟩ ⟨m, by omega⟩
      have h2 := or1_fin ⟨img a s m, hv32⟩ ⟨a m, hx5⟩
      simp only at h1 h2
      have h3 : img a s (m + 1) = img a s m ||| s / 2 ^ m % 2 * 2 ^ a m := rfl
      obtain ⟨x, hx⟩ : ∃ x, a m = x := ⟨_, rfl⟩
      obtain ⟨v, hv⟩ : ∃ x, img a s m = x := ⟨_, rfl⟩
      obtain ⟨t, ht⟩ : ∃ x, s / 2 ^ m % 2 = x := ⟨_, rfl⟩
      have ht2 : t < 2 := ht ▸ Nat.mod_lt _ (by omega)
      rw [hx] at c1 h2 hx5 h3
      rw [hv] at h2 hv32 h3 ⊢
      rw [ht] at h1 h3
      obtain ⟨u, hu⟩ : ∃ u, (2 : Nat) ^ x = u := ⟨_, rfl⟩
      rw [hu] at h2 h3
      obtain ⟨h4, _, h5⟩ := h2
      have hm1 : (m : Int) < (n : Int) := by omega
      have H3 := Lib.hid h3
      clear h3 hcl hx hv ht hu
      rcases (show t = 0 ∨ t = 1 by omega) with rfl | rfl
      · have h1' : bits .and .i64 ((s : Int) / (2 : Int) ^ m) 1 = 0 := h1
        clear h1
        go_wp2_with fail
        go_round
        case rel => exact ⟨m + 1, by omega, by go_num, by rw [H3.out, Nat.zero_mul, Nat.or_zero]⟩
        case measure => simp [intOf]; omega
      · have h1' : bits .and .i64 ((s : Int) / (2 : Int) ^ m) 1 = 1 := h1
        clear h1
        go_wp2_with fail
        go_round
        case rel => exact ⟨m + 1, by omega, by go_num, by rw [H3.out, Nat.one_mul]⟩
        case measure => simp [intOf]; omega
    · have e : m = n := by omega
      subst e
      go_wp2_with fail
      go_ret
      exact ⟨rfl, Below.refl _ _⟩
theorem rset_good (n : Nat) (a : Nat → Nat) (ha : Good n a) (s : Nat) (hs : s < 2 ^ n) (o : Option Addr) (cap : Nat) (w : World) (hL : Lq w o n cap (zf a)) : Calls Tryd.prog 30 #[.slice o n cap, .int .i64 (s : Int)] w fun e w' => e = .returned (.tuple #[.int .i64 ((img a s n : Nat) : Int), .int .i64 0]) ∧ Below w.heap.size w w' := by
  have H := Lib.hid (rcheck_any n (zf a) o cap w hL.1)
  rw [good_code ha] at H
  have hn := ha.hi
  have h32 : 2 ^ n ≤ 32 := Nat.pow_le_pow_right (n := 2) (by omega) hn
  have e : ((2 : Int) ^ n) = ((2 ^ n : Nat) : Int) := by simp
  have hw : (s : Int) < wrap64 (2 ^ n) := by rw [e, IntWalk.wrap64_in _ (by omega)]; omega
  have HI := Lib.hid (fun W (h : Lz W o n (zf a)) => image_ok n hn a ha.perm.lt s (by omega) o cap W h)
  have HL := Lib.hid hL.1
  clear hL ha e hs h32
  go_enter Tryd.func30, Tryd.ntmps30
  go_wp2_with fail
  refine H.out.mono ?_
  rintro e w' ⟨rfl, hbc⟩
  have HBC := Lib.hid hbc
  clear hbc
  go_wp2_with fail
  refine (HI.out _ (HL.out.below HBC.out)).mono ?_
  rintro e w' ⟨rfl, hb⟩
  have HB := Lib.hid hb
  clear hb hw
  go_wp2_with fail
  go_ret2
  exact ⟨rfl, HBC.out.trans (Joins.below_le HB.out HBC.out.size)⟩
set_option maxHeartbeats 1000000 in
theorem moved_ok (n : Nat) (a : Nat → Nat) (ha : Good n a) (v : Nat → Int) (p : Option Addr) (cap' : Nat) (o : Option Addr) (cap : Nat) (w : World) (hL : Lz w o n (zf a)) (hL' : Lz w p n v) : Calls Tryd.prog 57 #[.slice o n cap, .slice p n cap'] w (QOne n (sct a v n) w) := by
  have hn := ha.hi
  have hmk := fun w => run_vec n (by omega) w
  have HL := Lib.hid hL
  have HL' := Lib.hid hL'
  have HA := Lib.hid ha.perm.lt
  clear hL ha hL'
  go_enter Tryd.func57, Tryd.ntmps57
  go_wp2_with fail
  go_loopw [6] (fun j wr => ∃ i : Nat, i ≤ n ∧ j = .int .i64 (i : Int) ∧ Box wr w.heap.size (vec n (sct a v i)) 3 ∧ Below w.heap.size w wr) (fun j _ => n - (intOf j).toNat)
  case atStart => exact ⟨0, by omega, rfl, Box.new w _ _, (Below.refl _ _).alloc (Nat.le_refl _) _⟩
  case round =>
    clear hmk
    obtain ⟨i, hi, rfl, hbx, hbe⟩ := hrel
    have HBx := Lib.hid hbx
    have HBe := Lib.hid hbe
    clear hbx hbe
    by_cases hlt : i < n
    · obtain ⟨bl, ofs, rfl, hbl, hcl⟩ := HL.out (by omega)
      have hai := HA.out i hlt
      have c1 := (HBe.out.cell (p := ⟨bl, ofs + i, none⟩) hbl).trans (hcl i hlt)
      unfold zf at c1
      have c3 := (HBx.out.cell (a i)).trans (vec_get _ hai)
      have c4 := HBx.out.open_ (a i)
      obtain ⟨x, hx⟩ : ∃ x, a i = x := ⟨_, rfl⟩
      rw [hx] at c1 c3 c4 hai
      have HX := Lib.hid hx
      obtain ⟨bg, ofg, rfl, hbg, hcg⟩ := HL'.out (by omega)
      have c5 := (HBe.out.cell (p := ⟨bg, ofg + i, none⟩) hbg).trans (hcg i hlt)
      obtain ⟨z, hz⟩ : ∃ z, v i = z := ⟨_, rfl⟩
      rw [hz] at c5
      have HZ := Lib.hid hz
      clear hcg hz
      have hi1 : (i : Int) < (n : Int) := by omega
      have hx1 : (x : Int) < (n : Int) := by omega
      clear hcl hx
      go_wp2_with fail
      go_region
      all_goals go_wp2_with fail
      go_roundw
      case rel => exact ⟨i + 1, by omega, by go_num, ((show updz (sct a v i) x z = sct a v (i + 1) from by show _ = updz (sct a v i) (a i) (v i); rw [HX.out, HZ.out]) ▸ HBx.out.setv x z), by first | exact HBe.out.setCell (by simp) _ | exact below_dn _ (HBe.out.setCell (by simp) _) | exact (HBe.out.setCell (by simp) _).drew⟩
      case measure => simp [intOf]; omega
    · have e : i = n := by omega
      subst e
      go_wp2_with fail
      go_ret
      exact ⟨_, _, rfl, HBx.out.q, HBe.out⟩
theorem rvecr_good (n : Nat) (a : Nat → Nat) (ha : Good n a) (v : Nat → Int) (p : Option Addr) (cap' : Nat) (o : Option Addr) (cap : Nat) (w : World) (hL : Lq w o n cap (zf a)) (hL' : Lz w p n v) : Calls Tryd.prog 32 #[.slice o n cap, .slice p n cap'] w (QRes n (sct a v n) 0 w) := by
  have H := Lib.hid (rcheck_any n (zf a) o cap w hL.1)
  rw [good_code ha] at H
  have HM := Lib.hid (fun W (h : Lz W o n (zf a)) (h' : Lz W p n v) => moved_ok n a ha v p cap' o cap W h h')
  have HL := Lib.hid hL.1
  have HL' := Lib.hid hL'
  clear hL ha hL'
  go_enter Tryd.func32, Tryd.ntmps32
  go_wp2_with fail
  refine H.out.mono ?_
  rintro e w' ⟨rfl, hbc⟩
  have HBC := Lib.hid hbc
  clear hbc
  go_wp2_with fail
  refine (HM.out _ (HL.out.below HBC.out) (HL'.out.below HBC.out)).mono ?_
  rintro e w' ⟨o1, c1, rfl, hq, hb⟩
  have HQ := Lib.hid hq
  have HB := Lib.hid hb
  clear hq hb
  go_wp2_with fail
  go_ret2
  exact ⟨_, _, rfl, HQ.out, HBC.out.trans (Joins.below_le HB.out HBC.out.size)⟩

end Go.Proofs.YtgppdbiimlbpjaaDoor
