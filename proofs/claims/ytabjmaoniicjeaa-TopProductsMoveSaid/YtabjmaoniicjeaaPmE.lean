/- The specification's check of a permutation: for whatever integers it returns 0 exactly if they are a permutation. -/
import Derived.Test.YtabjmaoniicjeaaGrB
import Derived.Test.YtabjmaoniicjeaaGrA
import Derived.Test.YtabjmaoniicjeaaGrC
import Derived.Test.YtabjmaoniicjeaaGrD
import Derived.Test.YtabjmaoniicjeaaGrE
import Derived.Test.YtabjmaoniicjeaaGrF
import Derived.Test.YtabjmaoniicjeaaGrG
import Derived.Test.YtabjmaoniicjeaaGrJ
import Derived.Test.YtabjmaoniicjeaaPmD
import Derived.Test.YtabjmaoniicjeaaGrL
import Derived.Deep.DeepCutAuto
import Derived.LoopTactic
import Derived.Deep.RegionWith
import Derived.Test.YtabjmaoniicjeaaGrM
import Derived.WalkKit
import Derived.WalkSpells
import Derived.WalkLawsBesides
import Derived.Handy
import Derived.Deep.QuietTactic
import Derived.BigQuiet
import Derived.Outline
import Derived.Laws.BitsAllLaws
import Derived.IntWalk
import Derived.Lib.SmallJoins
import Derived.Lib.Hide
namespace Go.Proofs.Ytabjmaoniicjeaa
open Go.RowKit








/-- The first n integers are a permutation of the numbers below n. -/
structure PermI (n : Nat) (x : Nat → Int) : Prop where
  in_ : ∀ i, i < n → 0 ≤ x i ∧ x i < (n : Int)
  ne : ∀ i, i < n → ∀ l, l < i → x l ≠ x i

theorem not_in {n i : Nat} {x : Nat → Int} {v : Int} (hi : i < n) (hv : x i = v) (h : v < 0 ∨ (n : Int) ≤ v) : ¬ PermI n x := fun h' => by have := h'.in_ i hi; omega

set_option maxHeartbeats 1000000 in
theorem rpc_any (n cap b off : Nat) (x : Nat → Int) (h1 : 1 ≤ n) (h5 : n ≤ 5) (w : World) (hA : ∀ i, i < n → w.cell? ⟨b, off + i, none⟩ = some (.int .i64 (x i))) :
    Calls Try.prog 9 #[.slice (some ⟨b, off, none⟩) n cap] w
      fun e w' => ∃ r : Int, e = .returned (.int .i64 r) ∧ (r = 0 ↔ PermI n x) ∧ ∃ d, w' = w.drewN d := by
  have HA := Lib.hid hA
  clear hA
  go_enter Try.func9, Try.ntmps9
  go_wp2_with fail
  go_loopw [3] (fun j wr => ∃ i : Nat, i ≤ n ∧ j = .int .i64 i ∧ (∃ d, wr = w.drewN d) ∧ ∀ k, k < i → (0 ≤ x k ∧ x k < (n : Int)) ∧ ∀ l, l < k → x l ≠ x k) (fun j _ => n - (intOf j).toNat)
  case atStart => exact ⟨0, by omega, rfl, ⟨0, rfl⟩, fun k hk => by omega⟩
  case round =>
    obtain ⟨i, hi, rfl, ⟨d, rfl⟩, hall⟩ := hrel
    have Hall := Lib.hid hall
    clear hall
    by_cases hlt : i < n
    · have hcell := HA.out i hlt
      obtain ⟨v, hv⟩ : ∃ v, x i = v := ⟨_, rfl⟩
      rw [hv] at hcell
      have Hv := Lib.hid hv
      clear hv
      by_cases hv0 : v < 0
      · go_wp2_with fail
        go_ret
        exact ⟨2, rfl, ⟨(fun h => by omega), (fun h => absurd h (not_in hlt Hv.out (.inl hv0)))⟩, d, rfl⟩
      · by_cases hvn : (n : Int) ≤ v
        · go_wp2_with fail
          go_ret
          exact ⟨2, rfl, ⟨(fun h => by omega), (fun h => absurd h (not_in hlt Hv.out (.inr hvn)))⟩, d, rfl⟩
        · go_wp2_with fail
          obtain ⟨wo, hwo⟩ : ∃ wo : World, wo = w.drewN d := ⟨_, rfl⟩
          rw [← hwo]
          have Hwo := Lib.hid hwo
          have HA2 : Hid (∀ i, i < n → wo.cell? ⟨b, off + i, none⟩ = some (.int .i64 (x i))) := Lib.hid (fun i hi => by rw [hwo]; exact HA.out i hi)
          clear hwo
          go_loopw [4] (fun j wr => ∃ k : Nat, k ≤ i ∧ j = .int .i64 k ∧ (∃ d, wr = wo.drewN d) ∧ ∀ l, l < k → x l ≠ v) (fun j _ => i - (intOf j).toNat)
          case atStart => exact ⟨0, by omega, rfl, ⟨0, rfl⟩, fun l hl => by omega⟩
          case round =>
            obtain ⟨k, hk, rfl, ⟨d2, rfl⟩, hne⟩ := hrel
            have Hne := Lib.hid hne
            clear hne
            by_cases hki : k < i
            · have hck := HA2.out k (by omega)
              have hci := HA2.out i hlt
              rw [Hv.out] at hci
              obtain ⟨u, hu⟩ : ∃ u, x k = u := ⟨_, rfl⟩
              rw [hu] at hck
              have Hu := Lib.hid hu
              clear hu
              by_cases huv : u = v
              · subst huv
                go_wp2_with fail
                go_quiet (fail)
                go_wp2_with fail
                go_ret
                exact ⟨7, rfl, ⟨(fun h => by omega), (fun h => absurd (Hu.out.trans Hv.out.symm) (h.ne i hlt k hki))⟩, by
                  rw [Hwo.out]
                  simp only [World.drewN_drewN]
                  exact ⟨_, rfl⟩⟩
              · have hb : (u == v) = false := by simpa using huv
                have Huv := Lib.hid huv
                clear huv
                go_wp2_with fail
                go_quiet (fail)
                go_wp2_with fail
                exact ⟨⟨k + 1, by omega, by go_num, ⟨_, rfl⟩, fun l hl => by
                  rcases Nat.lt_or_eq_of_le (Nat.lt_succ_iff.1 hl) with h | h
                  · exact Hne.out l h
                  · rw [h, Hu.out]; exact Huv.out⟩, by simp [intOf]; omega⟩
            · have hke : k = i := by omega
              subst hke
              go_wp2_with fail
              exact ⟨⟨k + 1, by omega, by go_num, ⟨_, by rw [Hwo.out, World.drewN_drewN]⟩, fun j hj => by
                rcases Nat.lt_or_eq_of_le (Nat.lt_succ_iff.1 hj) with h | h
                · exact Hall.out j h
                · rw [h, Hv.out]; exact ⟨by omega, fun l hl => Hne.out l hl⟩⟩, by simp [intOf]; omega⟩
    · have hin : i = n := by omega
      subst hin
      go_wp2_with fail
      go_ret
      exact ⟨0, rfl, ⟨(fun _ => ⟨fun i hi => (Hall.out i hi).1, fun i hi => (Hall.out i hi).2⟩), (fun _ => rfl)⟩, d, rfl⟩
end Go.Proofs.Ytabjmaoniicjeaa
