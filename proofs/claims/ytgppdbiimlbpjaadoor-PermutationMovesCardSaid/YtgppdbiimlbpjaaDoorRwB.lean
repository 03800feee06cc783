/- permutation.Check and the specification's Check on whatever lists of integers. -/
import Derived.Test.YtgppdbiimlbpjaaDoorRwA
import Derived.WalkKit
import Derived.WalkSpells
import Derived.WalkLawsBesides
import Derived.Handy
import Derived.Deep.QuietTactic
import Derived.BigQuiet
import Derived.Outline
import Derived.Laws.BitsAllLaws
import Derived.IntWalk
import Derived.Lib.SmallJoins
import Derived.Lib.Hide
import Derived.Deep.DeepCutAuto
import Derived.LoopTactic
import Derived.Deep.RegionWith
namespace Go.Proofs.YtgppdbiimlbpjaaDoor
set_option linter.unusedVariables false
set_option linter.unusedSimpArgs false
open Go.RowKit

/-- A permutation of the numbers below n. -/
structure Perm (n : Nat) (f : Nat → Nat) : Prop where
  lt : ∀ p, p < n → f p < n
  inj : ∀ p q, p < n → q < n → f p = f q → p = q

/-- The number of the first wrong element among m elements from i on. -/
def pgo (n : Nat) (x : Nat → Int) : Nat → Nat → Int
  | 0, _ => 0
  | m + 1, i => if x i < 0 ∨ (n : Int) ≤ x i then 2 else if ∃ l, l < i ∧ x l = x i then 7 else pgo n x m (i + 1)

def pcode (n : Nat) (x : Nat → Int) : Int := if n < 1 ∨ 5 < n then 2 else pgo n x n 0

theorem pgo_cases (n : Nat) (x : Nat → Int) : ∀ m i, pgo n x m i = 0 ∨ pgo n x m i = 2 ∨ pgo n x m i = 7
  | 0, _ => .inl rfl
  | m + 1, i => by
    unfold pgo
    by_cases h : x i < 0 ∨ (n : Int) ≤ x i
    · rw [if_pos h]; exact .inr (.inl rfl)
    · rw [if_neg h]
      by_cases h2 : ∃ l, l < i ∧ x l = x i
      · rw [if_pos h2]; exact .inr (.inr rfl)
      · rw [if_neg h2]; exact pgo_cases n x m (i + 1)
theorem pcode_cases (n : Nat) (x : Nat → Int) : pcode n x = 0 ∨ pcode n x = 2 ∨ pcode n x = 7 := by
  unfold pcode
  by_cases h : n < 1 ∨ 5 < n
  · rw [if_pos h]; exact .inr (.inl rfl)
  · rw [if_neg h]; exact pgo_cases n x n 0

theorem pgo_zero (n : Nat) (x : Nat → Int) : ∀ m i, pgo n x m i = 0 → ∀ k, i ≤ k → k < i + m → (0 ≤ x k ∧ x k < (n : Int)) ∧ ∀ l, l < k → x l ≠ x k
  | 0, _, _, k, h1, h2 => by omega
  | m + 1, i, h, k, h1, h2 => by
    unfold pgo at h
    by_cases hb : x i < 0 ∨ (n : Int) ≤ x i
    · rw [if_pos hb] at h; omega
    · rw [if_neg hb] at h
      by_cases hd : ∃ l, l < i ∧ x l = x i
      · rw [if_pos hd] at h; omega
      · rw [if_neg hd] at h
        by_cases hk : k = i
        · subst hk
          exact ⟨by omega, fun l hl e => hd ⟨l, hl, e⟩⟩
        · exact pgo_zero n x m (i + 1) h k (by omega) (by omega)

theorem pcode_zero {n : Nat} {x : Nat → Int} (h : pcode n x = 0) : (1 ≤ n ∧ n ≤ 5) ∧ (∀ k, k < n → (0 ≤ x k ∧ x k < (n : Int)) ∧ ∀ l, l < k → x l ≠ x k) := by
  unfold pcode at h
  by_cases ho : n < 1 ∨ 5 < n
  · rw [if_pos ho] at h; omega
  · rw [if_neg ho] at h
    exact ⟨by omega, fun k hk => pgo_zero n x n 0 h k (by omega) (by omega)⟩

theorem pcode_perm {n : Nat} {x : Nat → Int} (h : pcode n x = 0) : Perm n (fun i => (x i).toNat) ∧ ∀ i, i < n → x i = (((x i).toNat : Nat) : Int) := by
  obtain ⟨_, h2⟩ := pcode_zero h
  refine ⟨⟨fun i hi => ?_, fun p q hp hq e => ?_⟩, fun i hi => ?_⟩
  · have := (h2 i hi).1; show (x i).toNat < n; omega
  · have hp' := (h2 p hp).1
    have hq' := (h2 q hq).1
    have e' : (x p).toNat = (x q).toNat := e
    have e2 : x p = x q := by omega
    rcases Nat.lt_trichotomy p q with hl | rfl | hl
    · exact absurd e2 ((h2 q hq).2 p hl)
    · rfl
    · exact absurd e2.symm ((h2 p hp).2 q hl)
  · have := (h2 i hi).1; omega

theorem pgo_bad {n k : Nat} {x : Nat → Int} (hk : k < n) (h : x k < 0 ∨ (n : Int) ≤ x k) : pgo n x (n - k) k = 2 := by
  obtain ⟨m, hm⟩ : ∃ m, n - k = m + 1 := ⟨n - k - 1, by omega⟩
  rw [hm]; unfold pgo; rw [if_pos h]
theorem pgo_twice {n k : Nat} {x : Nat → Int} (hk : k < n) (h : ¬ (x k < 0 ∨ (n : Int) ≤ x k)) (h2 : ∃ l, l < k ∧ x l = x k) : pgo n x (n - k) k = 7 := by
  obtain ⟨m, hm⟩ : ∃ m, n - k = m + 1 := ⟨n - k - 1, by omega⟩
  rw [hm]; unfold pgo; rw [if_neg h, if_pos h2]
theorem pgo_next {n k : Nat} {x : Nat → Int} (hk : k < n) (h : ¬ (x k < 0 ∨ (n : Int) ≤ x k)) (h2 : ¬ ∃ l, l < k ∧ x l = x k) : pgo n x (n - k) k = pgo n x (n - (k + 1)) (k + 1) := by
  obtain ⟨m, hm⟩ : ∃ m, n - k = m + 1 := ⟨n - k - 1, by omega⟩
  have hm2 : n - (k + 1) = m := by omega
  rw [hm, hm2]; show pgo n x (m + 1) k = _; rw [pgo, if_neg h, if_neg h2]

set_option maxHeartbeats 400000 in
theorem contains_any (i cap b off : Nat) (v : Int) (x : Nat → Int) (hi : i ≤ 5) (w : World) (hA : ∀ k, k < i → w.cell? ⟨b, off + k, none⟩ = some (.int .i64 (x k))) :
    Calls Tryd.prog 71 #[.slice (some ⟨b, off, none⟩) i cap, .int .i64 v] w fun e w' => (((∀ k, k < i → x k ≠ v) ∧ e = .returned (.int .i64 (-1))) ∨ ∃ k : Nat, k < i ∧ x k = v ∧ e = .returned (.int .i64 (k : Int))) ∧ w = w' := by
  have HA := Lib.hid hA
  clear hA
  go_enter Tryd.func71, Tryd.ntmps71
  go_wp2_with fail
  go_loop [8] (fun j => ∃ k : Nat, k ≤ i ∧ j = .int .i64 k ∧ ∀ l, l < k → x l ≠ v) (fun j => i - (intOf j).toNat)
  case atStart => exact ⟨0, by omega, rfl, fun l hl => by omega⟩
  case round =>
    obtain ⟨k, hk, rfl, hall⟩ := hrel
    have Hall := Lib.hid hall
    clear hall
    by_cases hlt : k < i
    · have hc := HA.out k hlt
      obtain ⟨u, hu⟩ : ∃ u, x k = u := ⟨_, rfl⟩
      rw [hu] at hc
      have Hu := Lib.hid hu
      clear hu
      by_cases huv : u = v
      · subst huv
        go_wp2_with fail
        go_ret
        exact ⟨.inr ⟨k, hlt, Hu.out, rfl⟩, rfl⟩
      · have hne : (v == u) = false := by rw [beq_eq_false_iff_ne]; exact fun e => huv e.symm
        have Huv := Lib.hid huv
        clear huv
        go_wp2_with fail
        go_round
        case rel => exact ⟨k + 1, by omega, by go_num, fun l hl => by
          rcases Nat.lt_or_eq_of_le (Nat.lt_succ_iff.1 hl) with h | h
          · exact Hall.out l h
          · rw [h, Hu.out]; exact Huv.out⟩
        case measure => simp [intOf]; omega
    · have hki : k = i := by omega
      subst hki
      go_wp2_with fail
      go_ret
      exact ⟨.inl ⟨Hall.out, rfl⟩, rfl⟩

theorem contains_not (i cap b off : Nat) (v : Int) (x : Nat → Int) (hi : i ≤ 5) (h : ¬ ∃ l, l < i ∧ x l = v) (w : World) (hA : ∀ k, k < i → w.cell? ⟨b, off + k, none⟩ = some (.int .i64 (x k))) :
    Calls Tryd.prog 53 #[.slice (some ⟨b, off, none⟩) i cap, .int .i64 v] w fun e w' => e = .returned (.bool false) ∧ w = w' := by
  have HA := Lib.hid hA
  have H := Lib.hid h
  clear hA h
  go_enter Tryd.func53, Tryd.ntmps53
  go_wp2_with fail
  refine (contains_any i cap b off v x hi _ HA.out).mono ?_
  rintro e w' ⟨⟨_, rfl⟩ | ⟨k, hk, hx, rfl⟩, rfl⟩
  · go_wp2_with fail
    go_ret
    exact ⟨rfl, rfl⟩
  · exact absurd ⟨k, hk, hx⟩ H.out

theorem contains_yes (i cap b off : Nat) (v : Int) (x : Nat → Int) (hi : i ≤ 5) (h : ∃ l, l < i ∧ x l = v) (w : World) (hA : ∀ k, k < i → w.cell? ⟨b, off + k, none⟩ = some (.int .i64 (x k))) :
    Calls Tryd.prog 53 #[.slice (some ⟨b, off, none⟩) i cap, .int .i64 v] w fun e w' => e = .returned (.bool true) ∧ w = w' := by
  have HA := Lib.hid hA
  have H := Lib.hid h
  clear hA h
  go_enter Tryd.func53, Tryd.ntmps53
  go_wp2_with fail
  refine (contains_any i cap b off v x hi _ HA.out).mono ?_
  rintro e w' ⟨⟨h, rfl⟩ | ⟨k, hk, hx, rfl⟩, rfl⟩
  · obtain ⟨l, hl, e⟩ := H.out
    exact absurd e (h l hl)
  · go_wp2_with fail
    go_ret
    exact ⟨rfl, rfl⟩

theorem pchk_out (n cap : Nat) (A : Option Addr) (h : n < 1 ∨ 5 < n) (w : World) :
    Calls Tryd.prog 19 #[.slice A n cap] w fun e w' => e = .returned (.int .i64 2) ∧ w = w' := by
  rcases h with h | h
  · have h0 : n = 0 := by omega
    subst h0
    go_enter Tryd.func19, Tryd.ntmps19
    go_wp2_with fail
    go_ret
    exact ⟨rfl, rfl⟩
  · go_enter Tryd.func19, Tryd.ntmps19
    go_wp2_with fail
    go_ret
    exact ⟨rfl, rfl⟩

set_option maxHeartbeats 400000 in
theorem pchk_in (n cap b off : Nat) (x : Nat → Int) (h1 : 1 ≤ n) (h5 : n ≤ 5) (hc : n ≤ cap) (w : World) (hA : ∀ i, i < n → w.cell? ⟨b, off + i, none⟩ = some (.int .i64 (x i))) :
    Calls Tryd.prog 19 #[.slice (some ⟨b, off, none⟩) n cap] w fun e w' => e = .returned (.int .i64 (pcode n x)) ∧ w = w' := by
  have HA := Lib.hid hA
  clear hA
  have hco : pcode n x = pgo n x n 0 := if_neg (by omega)
  obtain ⟨r, hr⟩ : ∃ r, pcode n x = r := ⟨_, rfl⟩
  rw [hr] at hco
  rw [hr]
  clear hr
  go_enter Tryd.func19, Tryd.ntmps19
  go_wp2_with fail
  go_loop [15] (fun j => ∃ k : Nat, k ≤ n ∧ j = .int .i64 k ∧ r = pgo n x (n - k) k) (fun j => n - (intOf j).toNat)
  case atStart => exact ⟨0, by omega, rfl, hco⟩
  case round =>
    obtain ⟨k, hk, rfl, hre⟩ := hrel
    clear hco
    have Hre := Lib.hid hre
    clear hre
    by_cases hlt : k < n
    · have hcell := HA.out k hlt
      by_cases hbad : x k < 0 ∨ (n : Int) ≤ x k
      · have hr := Hre.out
        rw [pgo_bad hlt hbad] at hr
        subst hr
        obtain ⟨v, hv⟩ : ∃ v, x k = v := ⟨_, rfl⟩
        rw [hv] at hcell hbad
        clear hv Hre
        rcases hbad with hb | hb
        · go_wp2_with fail
          go_ret
          exact ⟨rfl, rfl⟩
        · go_wp2_with fail
          go_ret
          exact ⟨rfl, rfl⟩
      · by_cases htw : ∃ l, l < k ∧ x l = x k
        · have hr := Hre.out
          rw [pgo_twice hlt hbad htw] at hr
          subst hr
          have hcon := fun w hA => contains_yes k cap b off (x k) x (by omega) htw w hA
          clear htw
          obtain ⟨v, hv⟩ : ∃ v, x k = v := ⟨_, rfl⟩
          rw [hv] at hcell hbad hcon
          have Hcon := Lib.hid hcon
          have hv1 : 0 ≤ v := by omega
          have hv2 : v < (n : Int) := by omega
          clear hv Hre hcon hbad
          go_wp2_with fail
          refine (Hcon.out _ (fun j hj => HA.out j (by omega))).mono ?_
          rintro e w' ⟨rfl, rfl⟩
          go_wp2_with fail
          go_ret
          exact ⟨rfl, rfl⟩
        · have hr := Hre.out
          rw [pgo_next hlt hbad htw] at hr
          have hcon := fun w hA => contains_not k cap b off (x k) x (by omega) htw w hA
          clear htw Hre
          have Hr := Lib.hid hr
          clear hr
          obtain ⟨v, hv⟩ : ∃ v, x k = v := ⟨_, rfl⟩
          rw [hv] at hcell hbad hcon
          have Hcon := Lib.hid hcon
          have hv1 : 0 ≤ v := by omega
          have hv2 : v < (n : Int) := by omega
          clear hv hcon hbad
          go_wp2_with fail
          refine (Hcon.out _ (fun j hj => HA.out j (by omega))).mono ?_
          rintro e w' ⟨rfl, rfl⟩
          go_wp2_with fail
          go_round
          case rel => exact ⟨k + 1, by omega, by go_num, Hr.out⟩
          case measure => simp [intOf]; omega
    · have hkn : k = n := by omega
      subst hkn
      have hr := Hre.out
      rw [Nat.sub_self] at hr
      have hr0 : r = 0 := hr
      subst hr0
      go_wp2_with fail
      go_ret
      exact ⟨rfl, rfl⟩
theorem rpc_out (n cap : Nat) (A : Option Addr) (h : n < 1 ∨ 5 < n) (w : World) :
    Calls Tryd.prog 20 #[.slice A n cap] w fun e w' => e = .returned (.int .i64 2) ∧ w' = w.drewN 0 := by
  rcases h with h | h
  · have h0 : n = 0 := by omega
    subst h0
    go_enter Tryd.func20, Tryd.ntmps20
    go_wp2_with fail
    go_ret
    exact ⟨rfl, rfl⟩
  · go_enter Tryd.func20, Tryd.ntmps20
    go_wp2_with fail
    go_ret
    exact ⟨rfl, rfl⟩

set_option maxHeartbeats 1000000 in
theorem rpc_in (n cap b off : Nat) (x : Nat → Int) (h1 : 1 ≤ n) (h5 : n ≤ 5) (w : World) (hA : ∀ i, i < n → w.cell? ⟨b, off + i, none⟩ = some (.int .i64 (x i))) :
    Calls Tryd.prog 20 #[.slice (some ⟨b, off, none⟩) n cap] w
      fun e w' => e = .returned (.int .i64 (pcode n x)) ∧ ∃ d, w' = w.drewN d := by
  have HA := Lib.hid hA
  clear hA
  have hco : pcode n x = pgo n x n 0 := if_neg (by omega)
  obtain ⟨r, hr⟩ : ∃ r, pcode n x = r := ⟨_, rfl⟩
  rw [hr] at hco
  rw [hr]
  clear hr
  go_enter Tryd.func20, Tryd.ntmps20
  go_wp2_with fail
  go_loopw [3] (fun j wr => ∃ i : Nat, i ≤ n ∧ j = .int .i64 i ∧ (∃ d, wr = w.drewN d) ∧ r = pgo n x (n - i) i) (fun j _ => n - (intOf j).toNat)
  case atStart => exact ⟨0, by omega, rfl, ⟨0, rfl⟩, hco⟩
  case round =>
    obtain ⟨i, hi, rfl, ⟨d, rfl⟩, hre⟩ := hrel
    clear hco
    have Hre := Lib.hid hre
    clear hre
    by_cases hlt : i < n
    · have hcell := HA.out i hlt
      by_cases hbad : x i < 0 ∨ (n : Int) ≤ x i
      · have hr := Hre.out
        rw [pgo_bad hlt hbad] at hr
        subst hr
        obtain ⟨v, hv⟩ : ∃ v, x i = v := ⟨_, rfl⟩
        rw [hv] at hcell hbad
        clear hv Hre
        rcases hbad with hb | hb
        · go_wp2_with fail
          go_ret
          exact ⟨rfl, d, rfl⟩
        · go_wp2_with fail
          go_ret
          exact ⟨rfl, d, rfl⟩
      · have Htw : Hid ((∃ l, l < i ∧ x l = x i) → r = 7) := Lib.hid (fun h => by have := Hre.out; rw [pgo_twice hlt hbad h] at this; exact this)
        have Hnx : Hid ((¬ ∃ l, l < i ∧ x l = x i) → r = pgo n x (n - (i + 1)) (i + 1)) := Lib.hid (fun h => by have := Hre.out; rw [pgo_next hlt hbad h] at this; exact this)
        obtain ⟨v, hv⟩ : ∃ v, x i = v := ⟨_, rfl⟩
        rw [hv] at hcell hbad
        have Hv := Lib.hid hv
        have hv0 : ¬ v < 0 := by omega
        have hvn : ¬ (n : Int) ≤ v := by omega
        clear hv Hre hbad
        go_wp2_with fail
        obtain ⟨wo, hwo⟩ : ∃ wo : World, wo = w.drewN d := ⟨_, rfl⟩
        rw [← hwo]
        have Hwo := Lib.hid hwo
        have HA2 : Hid (∀ i, i < n → wo.cell? ⟨b, off + i, none⟩ = some (.int .i64 (x i))) := Lib.hid (fun i hi => by rw [hwo]; exact HA.out i hi)
        clear hwo
        go_loopw [4] (fun j wr => ∃ k : Nat, k ≤ i ∧ j = .int .i64 k ∧ (∃ d, wr = wo.drewN d) ∧ ∀ l, l < k → x l ≠ v) (fun j _ => i - (intOf j).toNat)
        case atStart => exact ⟨0, by omega, rfl, ⟨0, rfl⟩, fun l hl => by omega⟩
        case round =>
          obtain ⟨k, hk, rfl, ⟨d2, rfl⟩, hne⟩ := hrel
          have Hne := Lib.hid hne
          clear hne
          by_cases hki : k < i
          · have hck := HA2.out k (by omega)
            have hci := HA2.out i hlt
            rw [Hv.out] at hci
            obtain ⟨u, hu⟩ : ∃ u, x k = u := ⟨_, rfl⟩
            rw [hu] at hck
            have Hu := Lib.hid hu
            clear hu
            by_cases huv : u = v
            · subst huv
              have hr : r = 7 := Htw.out ⟨k, hki, Hu.out.trans Hv.out.symm⟩
              subst hr
              go_wp2_with fail
              go_quiet (fail)
              go_wp2_with fail
              go_ret
              exact ⟨rfl, by
                rw [Hwo.out]
                simp only [World.drewN_drewN]
                exact ⟨_, rfl⟩⟩
            · have hb : (u == v) = false := by simpa using huv
              have Huv := Lib.hid huv
              clear huv
              go_wp2_with fail
              go_quiet (fail)
              go_wp2_with fail
              exact ⟨⟨k + 1, by omega, by go_num, ⟨_, rfl⟩, fun l hl => by
                rcases Nat.lt_or_eq_of_le (Nat.lt_succ_iff.1 hl) with h | h
                · exact Hne.out l h
                · rw [h, Hu.out]; exact Huv.out⟩, by simp [intOf]; omega⟩
          · have hke : k = i := by omega
            subst hke
            have Hr := Lib.hid (Hnx.out (fun ⟨l, hl, e⟩ => Hne.out l hl (e.trans Hv.out)))
            go_wp2_with fail
            exact ⟨⟨k + 1, by omega, by go_num, ⟨_, by rw [Hwo.out, World.drewN_drewN]⟩, Hr.out⟩, by simp [intOf]; omega⟩
    · have hin : i = n := by omega
      subst hin
      have hr := Hre.out
      rw [Nat.sub_self] at hr
      have hr0 : r = 0 := hr
      subst hr0
      go_wp2_with fail
      go_ret
      exact ⟨rfl, d, rfl⟩


/-- A list of n integers with its capacity. -/
def Lq (w : World) (o : Option Addr) (n cap : Nat) (f : Nat → Int) : Prop := Lz w o n f ∧ n ≤ cap
theorem Lq.below {w W : World} {o : Option Addr} {n cap : Nat} {f : Nat → Int} (h : Lq w o n cap f) (hb : Below w.heap.size w W) : Lq W o n cap f := ⟨h.1.below hb, h.2⟩
theorem Lq.congr {w : World} {o : Option Addr} {n cap : Nat} {f g : Nat → Int} (h : Lq w o n cap f) (e : ∀ i, i < n → f i = g i) : Lq w o n cap g := ⟨h.1.congr e, h.2⟩
theorem check_any (n : Nat) (x : Nat → Int) (o : Option Addr) (cap : Nat) (w : World) (h : Lq w o n cap x) :
    Calls Tryd.prog 19 #[.slice o n cap] w fun e w' => e = .returned (.int .i64 (pcode n x)) ∧ w = w' := by
  by_cases ho : n < 1 ∨ 5 < n
  · have hp : pcode n x = 2 := if_pos ho
    rw [hp]
    exact pchk_out n cap o ho w
  · obtain ⟨b, off, rfl, _, hcell⟩ := h.1 (by omega)
    exact pchk_in n cap b off x (by omega) (by omega) h.2 w hcell
theorem rcheck_any (n : Nat) (x : Nat → Int) (o : Option Addr) (cap : Nat) (w : World) (h : Lz w o n x) :
    Calls Tryd.prog 20 #[.slice o n cap] w fun e w' => e = .returned (.int .i64 (pcode n x)) ∧ Below w.heap.size w w' := by
  by_cases ho : n < 1 ∨ 5 < n
  · have hp : pcode n x = 2 := if_pos ho
    rw [hp]
    exact (rpc_out n cap o ho w).mono fun e w' ⟨h1, h2⟩ => ⟨h1, by subst h2; exact below_dn _ (Below.refl _ _)⟩
  · obtain ⟨b, off, rfl, _, hcell⟩ := h (by omega)
    exact (rpc_in n cap b off x (by omega) (by omega) w hcell).mono fun e w' ⟨h1, d, h2⟩ => ⟨h1, by subst h2; exact below_dn _ (Below.refl _ _)⟩
/-- A permutation of n processes, for 1 to 5 of them. -/
structure Good (n : Nat) (a : Nat → Nat) : Prop where
  lo : 1 ≤ n
  hi : n ≤ 5
  perm : Perm n a
theorem good_of {n : Nat} {x : Nat → Int} (h : pcode n x = 0) : ∃ a, Good n a ∧ ∀ i, i < n → x i = zf a i := by
  have h1 := pcode_zero h
  have h2 := pcode_perm h
  exact ⟨_, ⟨h1.1.1, h1.1.2, h2.1⟩, h2.2⟩
theorem pgo_ok {n : Nat} {a : Nat → Nat} (h : Perm n a) : ∀ m i, i + m ≤ n → pgo n (zf a) m i = 0
  | 0, _, _ => rfl
  | m + 1, i, hi => by
    rw [pgo, if_neg, if_neg]
    · exact pgo_ok h m (i + 1) (by omega)
    · rintro ⟨l, hl, e⟩
      unfold zf at e
      have := h.inj l i (by omega) (by omega) (by omega)
      omega
    · have := h.lt i (by omega)
      unfold zf
      omega
theorem good_code {n : Nat} {a : Nat → Nat} (h : Good n a) : pcode n (zf a) = 0 := by
  have h1 := h.lo
  have h2 := h.hi
  rw [pcode, if_neg (by omega)]
  exact pgo_ok h.perm n 0 (by omega)
/-- A list, with its capacity, and an error come back. -/
def QRes (n : Nat) (g : Nat → Int) (c : Int) (w : World) (e : Ending) (w' : World) : Prop := ∃ o cap, e = .returned (.tuple #[.slice o n cap, .int .i64 c]) ∧ Lq w' o n cap g ∧ Below w.heap.size w w'
def QOne (n : Nat) (g : Nat → Int) (w : World) (e : Ending) (w' : World) : Prop := ∃ o cap, e = .returned (.slice o n cap) ∧ Lq w' o n cap g ∧ Below w.heap.size w w'
theorem Row.shapeQ {w : World} {R : Nat} {v : Value} {l : List Int} (h : Row w R v l) : ∃ o cap, v = .slice o l.length cap ∧ Lq w o l.length cap (fun i => l.getD i 0) := by
  rcases h.2 with ⟨h0, h1⟩ | ⟨g, cap, cur, h0, hHL, hLc, hcl, hcm, hcs, htk⟩
  · have hl : l = [] := List.eq_nil_of_length_eq_zero h1
    subst hl
    exact ⟨none, 0, h0, Lz.nil, Nat.le_refl _⟩
  · obtain ⟨o, c, e, hz⟩ := h.shape
    rw [h0] at e
    injection e with e1 e2 e3
    subst e1 e3
    exact ⟨_, cap, h0, hz, hcl⟩
theorem Row.q {w : World} {R : Nat} {v : Value} {n : Nat} {f : Nat → Int} (h : Row w R v (lsf n f)) : ∃ o cap, v = .slice o n cap ∧ Lq w o n cap f := by
  obtain ⟨o, cap, e, hq⟩ := h.shapeQ
  have hl : (lsf n f).length = n := by simp [lsf]
  rw [hl] at e hq
  exact ⟨o, cap, e, hq.congr fun i hi => by simp [lsf, hi]⟩
end Go.Proofs.YtgppdbiimlbpjaaDoor
