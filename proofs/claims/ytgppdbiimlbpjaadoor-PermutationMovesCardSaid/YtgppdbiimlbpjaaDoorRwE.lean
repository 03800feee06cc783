/- Package permutation: slices.IsSorted, Order, Odd. -/
import Derived.Test.YtgppdbiimlbpjaaDoorRwC
import Derived.WalkKit
import Derived.WalkSpells
import Derived.WalkLawsBesides
import Derived.Handy
import Derived.Deep.QuietTactic
import Derived.BigQuiet
import Derived.Outline
import Derived.Laws.BitsAllLaws
import Derived.IntWalk
import Derived.Lib.SmallJoins
import Derived.Lib.Hide
import Derived.Deep.DeepCutAuto
import Derived.LoopTactic
import Derived.Deep.RegionWith
import Derived.Test.YtgppdbiimlbpjaaDoorRwD
namespace Go.Proofs.YtgppdbiimlbpjaaDoor
set_option linter.unusedVariables false
set_option linter.unusedSimpArgs false
open Go.RowKit

theorem nan_any (x : Int) (w : World) : Calls Tryd.prog 80 #[.int .i64 x] w fun e w' => e = .returned (.bool false) ∧ w = w' := by
  go_enter Tryd.func80, Tryd.ntmps80
  go_wp2_with fail
  go_ret
  exact ⟨by simp, rfl⟩

theorem less_any (x y : Int) (w : World) : Calls Tryd.prog 70 #[.int .i64 x, .int .i64 y] w fun e w' => e = .returned (.bool (decide (x < y))) ∧ w = w' := by
  have H1 := Lib.hid (fun w => nan_any x w)
  have H2 := Lib.hid (fun w => nan_any y w)
  go_enter Tryd.func70, Tryd.ntmps70
  go_wp2_with fail
  refine (H1.out _).mono ?_
  rintro e w' ⟨rfl, rfl⟩
  go_wp2_with fail
  go_ret
  exact ⟨by simp, rfl⟩
set_option maxHeartbeats 1000000 in
theorem issorted_any (n : Nat) (hn : n ≤ 65536) (f : Nat → Int) (o : Option Addr) (cap : Nat) (w : World) (hL : Lz w o n f) : Calls Tryd.prog 49 #[.slice o n cap] w fun e w' => e = .returned (.bool (srtb n f)) ∧ Below w.heap.size w w' := by
  have HL := Lib.hid hL
  obtain ⟨r, hr⟩ : ∃ r, srtb n f = r := ⟨_, rfl⟩
  rw [hr]
  have HR := Lib.hid hr
  clear hL hr
  go_enter Tryd.func49, Tryd.ntmps49
  go_wp2_with fail
  go_loopw [3] (fun j wr => ∃ i : Int, -1 ≤ i ∧ i < n ∧ j = .int .i64 i ∧ (∀ c : Nat, i ≤ (c : Int) → c < n - 1 → f c ≤ f (c + 1)) ∧ ∃ d, wr = w.drewN d) (fun j _ => (intOf j + 1).toNat)
  case atStart => exact ⟨_, by omega, by omega, rfl, fun c h1 h2 => by omega, 0, rfl⟩
  case round =>
    obtain ⟨i, h1, h2, rfl, hdo, hd⟩ := hrel
    have HDo := Lib.hid hdo
    clear hdo
    by_cases h0 : 0 < i
    · obtain ⟨k, rfl⟩ := Int.eq_ofNat_of_zero_le (show 0 ≤ i by omega)
      obtain ⟨k', rfl⟩ : ∃ k', k = k' + 1 := ⟨k - 1, by omega⟩
      obtain ⟨bl, ofs, rfl, hbl, hcl⟩ := HL.out (by omega)
      have c1 : wr.cell? ⟨bl, ofs + (k' + 1), none⟩ = some (.int .i64 (f (k' + 1))) := by obtain ⟨d, rfl⟩ := hd; exact hcl (k' + 1) (by omega)
      have c2 : wr.cell? ⟨bl, ofs + k', none⟩ = some (.int .i64 (f k')) := by obtain ⟨d, rfl⟩ := hd; exact hcl k' (by omega)
      obtain ⟨x, hx⟩ : ∃ x, f (k' + 1) = x := ⟨_, rfl⟩
      obtain ⟨y, hy⟩ : ∃ y, f k' = y := ⟨_, rfl⟩
      rw [hx] at c1
      rw [hy] at c2
      obtain ⟨k, hk⟩ : ∃ k, k = k' + 1 := ⟨_, rfl⟩
      rw [← hk] at c1 h0 h1 h2 ⊢
      have hw : IntKind.i64.wrap ((k : Int) - 1) = (k' : Int) := by rw [IntWalk.i64_in _ (by omega)]; omega
      have hlt1 : (k : Int) < (n : Int) := h2
      have hlt2 : (k' : Int) < (n : Int) := by omega
      have hkn : k' + 1 < n := by omega
      have HX := Lib.hid hx
      have HY := Lib.hid hy
      have HD := Lib.hid hd
      have HK := Lib.hid hk
      by_cases hxy : x < y
      · have hS := fun d => Calls.quiet_of_same ((less_any x y (wr.drewN d)).mono fun _ _ ⟨a, b⟩ => ⟨a, b.symm⟩)
        rw [decide_eq_true hxy] at hS
        have HS := Lib.hid hS
        have h00 : r = false := by
          rw [← HR.out]
          refine decide_eq_false fun H => ?_
          have := H k' (by omega)
          rw [hx, hy] at this
          omega
        clear hx hy hcl hd hk hxy hS
        subst h00
        go_wp2_with fail
        go_quiet ((go_at_call 70; exact HS.out _))
        clear hw
        go_wp2_with fail
        go_ret
        obtain ⟨d, hd⟩ := HD.out
        subst hd
        exact ⟨rfl, below_dn _ (below_dn _ (Below.refl _ _))⟩
      · have hS := fun d => Calls.quiet_of_same ((less_any x y (wr.drewN d)).mono fun _ _ ⟨a, b⟩ => ⟨a, b.symm⟩)
        rw [decide_eq_false hxy] at hS
        have HS := Lib.hid hS
        have HNl := Lib.hid hxy
        clear hx hy hcl hd hk hxy hS
        go_wp2_with fail
        go_quiet ((go_at_call 70; exact HS.out _))
        clear hw
        go_wp2_with fail
        go_roundw
        case rel =>
          refine ⟨_, by omega, by omega, rfl, fun c hc1 hc2 => ?_, by obtain ⟨d, hd⟩ := HD.out; subst hd; exact ⟨_, World.drewN_drewN _ _ _⟩⟩
          by_cases e : c = k'
          · subst e
            rw [HX.out, HY.out]
            have := HNl.out
            omega
          · exact HDo.out c (by have := HK.out; omega) hc2
        case measure => simp [intOf] <;> omega
    · have h0' : i ≤ 0 := by omega
      have HD := Lib.hid hd
      have h00 : r = true := by
        rw [← HR.out]
        exact decide_eq_true fun c hc => HDo.out c (by omega) hc
      subst h00
      clear hd h0 h2
      go_wp2_with fail
      go_ret
      obtain ⟨d, hd⟩ := HD.out
      subst hd
      exact ⟨rfl, below_dn _ (Below.refl _ _)⟩

theorem ord_bad (n : Nat) (x : Nat → Int) (c : Int) (hc : pcode n x = c) (h0 : c ≠ 0) (o : Option Addr) (cap : Nat) (w : World) (hL : Lq w o n cap x) : Calls Tryd.prog 15 #[.slice o n cap] w fun e w' => e = .returned (.tuple #[.int .i64 0, .int .i64 c]) ∧ Below w.heap.size w w' := by
  have H := Lib.hid (check_any n x o cap w hL)
  rw [hc] at H
  have h1 : (c != 0) = true := by rw [bne_iff_ne]; exact h0
  clear hL hc h0
  go_enter Tryd.func15, Tryd.ntmps15
  go_wp2_with fail
  refine H.out.mono ?_
  rintro e w' ⟨rfl, rfl⟩
  go_wp2_with fail
  go_ret2
  exact ⟨rfl, Below.refl _ _⟩
set_option maxHeartbeats 1000000 in
theorem ord_good (n : Nat) (a : Nat → Nat) (ha : Good n a) (o : Option Addr) (cap : Nat) (w : World) (hL : Lq w o n cap (zf a)) : Calls Tryd.prog 15 #[.slice o n cap] w fun e w' => e = .returned (.tuple #[.int .i64 ((ordl n a : Nat) : Int), .int .i64 0]) ∧ Below w.heap.size w w' := by
  have H := Lib.hid (check_any n (zf a) o cap w hL)
  rw [good_code ha] at H
  have HL := Lib.hid hL
  have HA := Lib.hid ha
  have hn := ha.hi
  clear hL ha
  go_enter Tryd.func15, Tryd.ntmps15
  go_wp2_with fail
  refine H.out.mono ?_
  rintro e w' ⟨rfl, rfl⟩
  go_wp2_with fail
  go_loopw [5, 6] (fun j v wr => ∃ k : Nat, 1 ≤ k ∧ k ≤ 6 ∧ j = .int .i64 (k : Int) ∧ (∃ p c, v = .slice p n c ∧ Lq wr p n c (zf (itr a k))) ∧ (∀ i, 1 ≤ i → i < k → idb n a i = false) ∧ Below w.heap.size w wr) (fun j _ _ => 7 - (intOf j).toNat)
  case atStart => exact ⟨1, by omega, by omega, rfl, ⟨o, cap, rfl, HL.out⟩, fun i h1 h2 => by omega, Below.refl _ _⟩
  case round =>
    obtain ⟨k, h1, h6, rfl, ⟨p, c, rfl, hq⟩, hno, hb⟩ := hrel
    have HQ := Lib.hid hq
    have HNo := Lib.hid hno
    have HB := Lib.hid hb
    have HS := Lib.hid (issorted_any n (by omega) (zf (itr a k)) p c wr hq.1)
    have hsid : srtb n (zf (itr a k)) = idb n a k := by rw [Bool.eq_iff_iff, srt_id (itr_good HA.out k), idb_iff]
    rw [hsid] at HS
    clear hq hno hb hsid
    cases hid : idb n a k with
    | true =>
      rw [hid] at HS
      have HOr := Lib.hid (ordl_is h1 h6 hid HNo.out)
      clear hid
      go_wp2_with fail
      refine HS.out.mono ?_
      rintro e w1 ⟨rfl, hb⟩
      have HB2 := Lib.hid (HB.out.trans (Joins.below_le hb HB.out.size))
      clear hb
      go_wp2_with fail
      go_ret2
      exact ⟨by rw [HOr.out]; rfl, HB2.out⟩
    | false =>
      rw [hid] at HS
      have h5 : k + 1 ≤ 6 := by
        obtain ⟨k0, g1, g6, g⟩ := ord_some HA.out
        rcases Nat.lt_trichotomy k0 k with h | h | h
        · rw [HNo.out k0 g1 h] at g; cases g
        · rw [h, hid] at g; cases g
        · omega
      have HId := Lib.hid hid
      clear hid
      go_wp2_with fail
      refine HS.out.mono ?_
      rintro e w1 ⟨rfl, hb⟩
      have HB2 := Lib.hid (HB.out.trans (Joins.below_le hb HB.out.size))
      have HQ2 := Lib.hid (HQ.out.below hb)
      clear hb HB HQ
      go_wp2_with fail
      refine (after_ok n hn a (itr a k) (itr_good HA.out k).perm.lt o p cap c w1 (HL.out.below HB2.out).1 HQ2.out.1).mono ?_
      rintro e w2 ⟨p2, c2, rfl, hq2, hb⟩
      have HB3 := Lib.hid (HB2.out.trans (Joins.below_le hb HB2.out.size))
      have HQ3 := Lib.hid hq2
      clear hb hq2
      go_wp2_with fail
      go_roundw
      case rel =>
        refine ⟨k + 1, by omega, h5, by go_num, ⟨p2, c2, rfl, HQ3.out⟩, fun i g1 g2 => ?_, HB3.out⟩
        by_cases e : i = k
        · subst e; exact HId.out
        · exact HNo.out i g1 (by omega)
      case measure => simp [intOf]; omega

end Go.Proofs.YtgppdbiimlbpjaaDoor
