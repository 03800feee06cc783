/- The specification's check of a list of whatever integers, and both checks for a list that may be nil. -/
import Derived.Test.YtmhfhdfiepniaaaDoorPcA
import Derived.LoopTactic
import Derived.Deep.RegionWith
import Derived.WalkKit
import Derived.WalkSpells
import Derived.WalkLawsBesides
import Derived.Handy
import Derived.Deep.QuietTactic
import Derived.BigQuiet
import Derived.Outline
import Derived.Laws.BitsAllLaws
import Derived.IntWalk
import Derived.Lib.SmallJoins
import Derived.Lib.Hide
namespace Go.Proofs.YtmhfhdfiepniaaaDoor
set_option linter.unusedVariables false
set_option linter.unusedSimpArgs false
open Go.RowKit

theorem rpc_out (n cap : Nat) (A : Option Addr) (h : n < 1 ∨ 5 < n) (w : World) :
    Calls Tryd.prog 36 #[.slice A n cap] w fun e w' => e = .returned (.int .i64 2) ∧ w' = w.drewN 0 := by
  rcases h with h | h
  · have h0 : n = 0 := by omega
    subst h0
    go_enter Tryd.func36, Tryd.ntmps36
    go_wp2_with fail
    go_ret
    exact ⟨rfl, rfl⟩
  · go_enter Tryd.func36, Tryd.ntmps36
    go_wp2_with fail
    go_ret
    exact ⟨rfl, rfl⟩

set_option maxHeartbeats 1000000 in
theorem rpc_in (n cap b off : Nat) (x : Nat → Int) (h1 : 1 ≤ n) (h5 : n ≤ 5) (w : World) (hA : ∀ i, i < n → w.cell? ⟨b, off + i, none⟩ = some (.int .i64 (x i))) :
    Calls Tryd.prog 36 #[.slice (some ⟨b, off, none⟩) n cap] w
      fun e w' => e = .returned (.int .i64 (pcode n x)) ∧ ∃ d, w' = w.drewN d := by
  have HA := Lib.hid hA
  clear hA
  have hco : pcode n x = pgo n x n 0 := if_neg (by omega)
  obtain ⟨r, hr⟩ : ∃ r, pcode n x = r := ⟨_, rfl⟩
  rw [hr] at hco
  rw [hr]
  clear hr
  go_enter Tryd.func36, Tryd.ntmps36
  go_wp2_with fail
  go_loopw [3] (fun j wr => ∃ i : Nat, i ≤ n ∧ j = .int .i64 i ∧ (∃ d, wr = w.drewN d) ∧ r = pgo n x (n - i) i) (fun j _ => n - (intOf j).toNat)
  case atStart => exact ⟨0, by omega, rfl, ⟨0, rfl⟩, hco⟩
  case round =>
    obtain ⟨i, hi, rfl, ⟨d, rfl⟩, hre⟩ := hrel
    clear hco
    have Hre := Lib.hid hre
    clear hre
    by_cases hlt : i < n
    · have hcell := HA.out i hlt
      by_cases hbad : x i < 0 ∨ (n : Int) ≤ x i
      · have hr := Hre.out
        rw [pgo_bad hlt hbad] at hr
        subst hr
        obtain ⟨v, hv⟩ : ∃ v, x i = v := ⟨_, rfl⟩
        rw [hv] at hcell hbad
        clear hv Hre
        rcases hbad with hb | hb
        · go_wp2_with fail
          go_ret
          exact ⟨rfl, d, rfl⟩
        · go_wp2_with fail
          go_ret
          exact ⟨rfl, d, rfl⟩
      · have Htw : Hid ((∃ l, l < i ∧ x l = x i) → r = 7) := Lib.hid (fun h => by have := Hre.out; rw [pgo_twice hlt hbad h] at this; exact this)
        have Hnx : Hid ((¬ ∃ l, l < i ∧ x l = x i) → r = pgo n x (n - (i + 1)) (i + 1)) := Lib.hid (fun h => by have := Hre.out; rw [pgo_next hlt hbad h] at this; exact this)
        obtain ⟨v, hv⟩ : ∃ v, x i = v := ⟨_, rfl⟩
        rw [hv] at hcell hbad
        have Hv := Lib.hid hv
        have hv0 : ¬ v < 0 := by omega
        have hvn : ¬ (n : Int) ≤ v := by omega
        clear hv Hre hbad
        go_wp2_with fail
        obtain ⟨wo, hwo⟩ : ∃ wo : World, wo = w.drewN d := ⟨_, rfl⟩
        rw [← hwo]
        have Hwo := Lib.hid hwo
        have HA2 : Hid (∀ i, i < n → wo.cell? ⟨b, off + i, none⟩ = some (.int .i64 (x i))) := Lib.hid (fun i hi => by rw [hwo]; exact HA.out i hi)
        clear hwo
        go_loopw [4] (fun j wr => ∃ k : Nat, k ≤ i ∧ j = .int .i64 k ∧ (∃ d, wr = wo.drewN d) ∧ ∀ l, l < k → x l ≠ v) (fun j _ => i - (intOf j).toNat)
        case atStart => exact ⟨0, by omega, rfl, ⟨0, rfl⟩, fun l hl => by omega⟩
        case round =>
          obtain ⟨k, hk, rfl, ⟨d2, rfl⟩, hne⟩ := hrel
          have Hne := Lib.hid hne
          clear hne
          by_cases hki : k < i
          · have hck := HA2.out k (by omega)
            have hci := HA2.out i hlt
            rw [Hv.out] at hci
            obtain ⟨u, hu⟩ : ∃ u, x k = u := ⟨_, rfl⟩
            rw [hu] at hck
            have Hu := Lib.hid hu
            clear hu
            by_cases huv : u = v
            · subst huv
              have hr : r = 7 := Htw.out ⟨k, hki, Hu.out.trans Hv.out.symm⟩
              subst hr
              go_wp2_with fail
              go_quiet (fail)
              go_wp2_with fail
              go_ret
              exact ⟨rfl, by
                rw [Hwo.out]
                simp only [World.drewN_drewN]
                exact ⟨_, rfl⟩⟩
            · have hb : (u == v) = false := by simpa using huv
              have Huv := Lib.hid huv
              clear huv
              go_wp2_with fail
              go_quiet (fail)
              go_wp2_with fail
              exact ⟨⟨k + 1, by omega, by go_num, ⟨_, rfl⟩, fun l hl => by
                rcases Nat.lt_or_eq_of_le (Nat.lt_succ_iff.1 hl) with h | h
                · exact Hne.out l h
                · rw [h, Hu.out]; exact Huv.out⟩, by simp [intOf]; omega⟩
          · have hke : k = i := by omega
            subst hke
            have Hr := Lib.hid (Hnx.out (fun ⟨l, hl, e⟩ => Hne.out l hl (e.trans Hv.out)))
            go_wp2_with fail
            exact ⟨⟨k + 1, by omega, by go_num, ⟨_, by rw [Hwo.out, World.drewN_drewN]⟩, Hr.out⟩, by simp [intOf]; omega⟩
    · have hin : i = n := by omega
      subst hin
      have hr := Hre.out
      rw [Nat.sub_self] at hr
      have hr0 : r = 0 := hr
      subst hr0
      go_wp2_with fail
      go_ret
      exact ⟨rfl, d, rfl⟩

/-- What is told of the list: it is nil, or it lies there. -/
def IsInts (w : World) (A : Option Addr) (len cap : Nat) (x : Nat → Int) : Prop :=
  (A = none ∧ len = 0) ∨ ∃ b off, ∃ spot, A = some ⟨b, off, spot⟩ ∧ len ≤ cap ∧ (0 < len → spot = none) ∧ (0 < len → b < w.heap.size) ∧ ∀ i, i < len → w.cell? ⟨b, off + i, none⟩ = some (.int .i64 (x i))

theorem IsInts.below {w W : World} {A : Option Addr} {len cap : Nat} {x : Nat → Int} (h : IsInts w A len cap x) (hb : Below w.heap.size w W) : IsInts W A len cap x := by
  rcases h with h | ⟨b, off, spot, hA, hc, hs, hlt, hcell⟩
  · exact .inl h
  · exact .inr ⟨b, off, spot, hA, hc, hs, fun h => Nat.lt_of_lt_of_le (hlt h) hb.size, fun i hi => (hb.cell (p := ⟨b, off + i, none⟩) (hlt (by omega))).trans (hcell i hi)⟩

theorem pchk_code (len cap : Nat) (A : Option Addr) (x : Nat → Int) (w : World) (h : IsInts w A len cap x) :
    Calls Tryd.prog 19 #[.slice A len cap] w fun e w' => e = .returned (.int .i64 (pcode len x)) ∧ w = w' := by
  by_cases ho : len < 1 ∨ 5 < len
  · have hp : pcode len x = 2 := if_pos ho
    rw [hp]
    exact pchk_out len cap A ho w
  · rcases h with ⟨_, h0⟩ | ⟨b, off, spot, rfl, hc, hs, hlt, hcell⟩
    · omega
    · rw [hs (by omega)]
      exact pchk_in len cap b off x (by omega) (by omega) hc w hcell

theorem rpc_code (len cap : Nat) (A : Option Addr) (x : Nat → Int) (w : World) (h : IsInts w A len cap x) :
    Calls Tryd.prog 36 #[.slice A len cap] w fun e w' => e = .returned (.int .i64 (pcode len x)) ∧ ∃ d, w' = w.drewN d := by
  by_cases ho : len < 1 ∨ 5 < len
  · have hp : pcode len x = 2 := if_pos ho
    rw [hp]
    exact (rpc_out len cap A ho w).mono fun e w' ⟨h1, h2⟩ => ⟨h1, 0, h2⟩
  · rcases h with ⟨_, h0⟩ | ⟨b, off, spot, rfl, hc, hs, hlt, hcell⟩
    · omega
    · rw [hs (by omega)]
      exact rpc_in len cap b off x (by omega) (by omega) w hcell
end Go.Proofs.YtmhfhdfiepniaaaDoor
