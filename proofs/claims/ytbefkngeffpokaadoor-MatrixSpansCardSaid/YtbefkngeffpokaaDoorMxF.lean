/- Check of matrices, both sides; Few. -/
import Derived.Test.YtbefkngeffpokaaDoorMxE
import Derived.WalkKit
import Derived.WalkSpells
import Derived.WalkLawsBesides
import Derived.Handy
import Derived.Deep.QuietTactic
import Derived.BigQuiet
import Derived.Outline
import Derived.Laws.BitsAllLaws
import Derived.IntWalk
import Derived.Lib.SmallJoins
import Derived.Lib.Hide
import Derived.Deep.DeepCutAuto
import Derived.LoopTactic
import Derived.Deep.RegionWith
import Derived.Laws.CopyOwn
import Derived.Maps.OwnOps
import Derived.Maps.OwnSet
import Derived.Laws.OwnMore
import Derived.Maps.AppendAt
import Derived.RangeFuncNested
import Derived.RangeFuncBound
import Derived.RangeFuncCalls
import Derived.RangeFuncLeaves
import Derived.RangeFuncBox
import Derived.RangeFuncFrom
import Derived.Shelf.Abstract
import Derived.Shelf.RegionOpen
import Derived.OwnWalkIn
import Derived.TacticsInMore
import Derived.LoopNIn
import Derived.LoopIn
import Derived.Deep.RegionHeld3
import Derived.RegionTactic
import Derived.ChangeAlike
namespace Go.Proofs.YtbefkngeffpokaaDoor
set_option linter.unusedVariables false
set_option linter.unusedSimpArgs false
open Go.RowKit


/-- A matrix as a value. -/
def mv (C : Int) (o : Option Addr) (K cap : Nat) : Value := .agg #[.int .i64 C, .slice o K cap]
set_option maxHeartbeats 1000000 in
theorem check_any (C : Int) (K : Nat) (o : Option Addr) (cap : Nat) (oc : Nat → Option Addr) (nc cc : Nat → Nat) (hnc : ∀ c, c < K → nc c ≤ 1000000000) (xc : Nat → Nat → Int) (w : World) (hL : Lv w o K oc nc cc xc) :
    Calls Tryd.prog 18 #[mv C o K cap] w fun e w' => e = .returned (.int .i64 (mcode C K nc xc)) ∧ Below w.heap.size w w' := by
  have HN := Lib.hid hnc
  have hbx : Below w.heap.size w (w.alloc (.cells #[.int .i64 C, .slice o K cap] 24)) := (Below.refl _ _).alloc (Nat.le_refl _) _
  have HL := Lib.hid (hL.below hbx)
  have HB := Lib.hid hbx
  clear hnc hL hbx
  unfold mcode mv
  by_cases hC : C < 0 ∨ 4096 < C
  · rw [if_pos hC]
    rcases hC with h | h
    · go_enter Tryd.func18, Tryd.ntmps18
      go_wp2_with fail
      go_ret
      exact ⟨rfl, HB.out⟩
    · have h2 : ¬ C < 0 := by omega
      go_enter Tryd.func18, Tryd.ntmps18
      go_wp2_with fail
      go_ret
      exact ⟨rfl, HB.out⟩
  · rw [if_neg hC]
    have g1 : ¬ C < 0 := fun h => hC (.inl h)
    have g2 : ¬ 4096 < C := fun h => hC (.inr h)
    clear hC
    by_cases hK : 4096 < K
    · rw [if_pos hK]
      have k1 : (4096 : Int) < (K : Int) := by omega
      go_enter Tryd.func18, Tryd.ntmps18
      go_wp2_with fail
      go_ret
      exact ⟨rfl, HB.out⟩
    · rw [if_neg hK]
      have k1 : ¬ (4096 : Int) < (K : Int) := by omega
      obtain ⟨r, hr⟩ : ∃ r, mgo C nc xc K 0 = r := ⟨_, rfl⟩
      rw [hr]
      have HR : Hid (mgo C nc xc (K - 0) 0 = r) := Lib.hid hr
      clear hr
      go_enter Tryd.func18, Tryd.ntmps18
      go_wp2_with fail
      go_loop [21] (fun j => ∃ c : Nat, c ≤ K ∧ j = .int .i64 (c : Int) ∧ mgo C nc xc (K - c) c = r) (fun j => K - (intOf j).toNat)
      case atStart => exact ⟨0, by omega, by first | trivial | rfl, HR.out⟩
      case round =>
        clear HR
        obtain ⟨c, hc, rfl, hre⟩ := hrel
        by_cases hlt : c < K
        · have hc1 : (c : Int) < (K : Int) := by omega
          obtain ⟨b, off, rfl, hb, hcl⟩ := HL.out (by omega)
          obtain ⟨e1, l1⟩ := hcl c hlt
          rw [mgo_at hlt] at hre
          have HV := Lib.hid (cvec_any C (nc c) (HN.out c hlt) (xc c) (oc c) (cc c) _ l1)
          obtain ⟨v, hv⟩ : ∃ v, vcode C (nc c) (xc c) = v := ⟨_, rfl⟩
          rw [hv] at hre HV
          obtain ⟨oo, ho⟩ : ∃ x, oc c = x := ⟨_, rfl⟩
          obtain ⟨n1, hm⟩ : ∃ x, nc c = x := ⟨_, rfl⟩
          obtain ⟨kk, hk⟩ : ∃ x, cc c = x := ⟨_, rfl⟩
          rw [ho, hm, hk] at e1 HV
          clear hcl l1 hv ho hm hk
          by_cases hv0 : v = 0
          · subst hv0
            rw [if_neg (by simp)] at hre
            have Hre := Lib.hid hre
            clear hre
            go_wp2_with fail
            refine HV.out.mono ?_
            rintro e w' ⟨rfl, rfl⟩
            go_wp2_with fail
            go_round
            case rel => exact ⟨c + 1, by omega, by go_num, Hre.out⟩
            case measure => simp [intOf]; omega
          · rw [if_pos hv0] at hre
            subst hre
            have g3 : (v != 0) = true := by rw [bne_iff_ne]; exact hv0
            clear hv0
            go_wp2_with fail
            refine HV.out.mono ?_
            rintro e w' ⟨rfl, rfl⟩
            go_wp2_with fail
            go_ret
            exact ⟨rfl, HB.out⟩
        · have e : c = K := by omega
          subst e
          rw [Nat.sub_self] at hre
          have h0 : r = 0 := hre.symm
          subst h0
          clear hlt hre
          go_wp2_with fail
          go_ret
          exact ⟨rfl, HB.out⟩
set_option maxHeartbeats 2000000 in
theorem rcheck_any (C : Int) (K : Nat) (o : Option Addr) (cap : Nat) (oc : Nat → Option Addr) (nc cc : Nat → Nat) (hnc : ∀ c, c < K → nc c ≤ 1000000000) (xc : Nat → Nat → Int) (w : World) (hL : Lv w o K oc nc cc xc) :
    Calls Tryd.prog 19 #[mv C o K cap] w fun e w' => e = .returned (.int .i64 (mcode C K nc xc)) ∧ Below w.heap.size w w' := by
  have HN := Lib.hid hnc
  have hbx : Below w.heap.size w (w.alloc (.cells #[.int .i64 C, .slice o K cap] 24)) := (Below.refl _ _).alloc (Nat.le_refl _) _
  have HL := Lib.hid (hL.below hbx)
  have HB := Lib.hid hbx
  clear hnc hL hbx
  unfold mcode mv
  by_cases hC : C < 0 ∨ 4096 < C
  · rw [if_pos hC]
    rcases hC with h | h
    · go_enter Tryd.func19, Tryd.ntmps19
      go_wp2_with fail
      go_ret
      exact ⟨rfl, HB.out⟩
    · have h2 : ¬ C < 0 := by omega
      go_enter Tryd.func19, Tryd.ntmps19
      go_wp2_with fail
      go_ret
      exact ⟨rfl, HB.out⟩
  · rw [if_neg hC]
    have g1 : ¬ C < 0 := fun h => hC (.inl h)
    have g2 : ¬ 4096 < C := fun h => hC (.inr h)
    clear hC
    by_cases hK : 4096 < K
    · rw [if_pos hK]
      have k1 : (4096 : Int) < (K : Int) := by omega
      go_enter Tryd.func19, Tryd.ntmps19
      go_wp2_with fail
      go_ret
      exact ⟨rfl, HB.out⟩
    · rw [if_neg hK]
      have k1 : ¬ (4096 : Int) < (K : Int) := by omega
      obtain ⟨r, hr⟩ : ∃ r, mgo C nc xc K 0 = r := ⟨_, rfl⟩
      rw [hr]
      have HR : Hid (mgo C nc xc (K - 0) 0 = r) := Lib.hid hr
      have hbox : Box (w.alloc (.cells #[.int .i64 C, .slice o K cap] 24)) w.heap.size #[.int .i64 C, .slice o K cap] 24 := Box.new w _ _
      have HBox := Lib.hid hbox
      clear hr hbox
      go_enter Tryd.func19, Tryd.ntmps19
      go_wp2_with fail
      obtain ⟨W, hW⟩ : ∃ W, w.alloc (.cells #[.int .i64 C, .slice o K cap] 24) = W := ⟨_, rfl⟩
      rw [hW] at HL HB HBox ⊢
      obtain ⟨bx, hbx⟩ : ∃ b, w.heap.size = b := ⟨_, rfl⟩
      have Hbx := Lib.hid hbx
      rw [hbx] at HBox ⊢
      clear hW hbx
      go_loopw [3] (fun j wr => ∃ c : Nat, c ≤ K ∧ j = .int .i64 (c : Int) ∧ mgo C nc xc (K - c) c = r ∧ ∃ d, wr = W.drewN d) (fun j _ => K - (intOf j).toNat)
      case atStart => exact ⟨0, by omega, by first | trivial | rfl, HR.out, 0, rfl⟩
      case round =>
        clear HR
        obtain ⟨c, hc, rfl, hre, hd⟩ := hrel
        have HD := Lib.hid hd
        have c0 : wr.cell? ⟨bx, 0, none⟩ = some (.int .i64 C) := by obtain ⟨d, rfl⟩ := hd; exact HBox.out.cell 0
        have c1 : wr.cell? ⟨bx, 1, none⟩ = some (.slice o K cap) := by obtain ⟨d, rfl⟩ := hd; exact HBox.out.cell 1
        by_cases hlt : c < K
        · have hc1 : (c : Int) < (K : Int) := by omega
          obtain ⟨b, off, rfl, hb, hcl⟩ := HL.out (by omega)
          obtain ⟨e1', l1'⟩ := hcl c hlt
          have e1 : wr.cell? ⟨b, off + c, none⟩ = some (.slice (oc c) (nc c) (cc c)) := by obtain ⟨d, rfl⟩ := hd; exact e1'
          have l1 : Lz wr (oc c) (nc c) (xc c) := by obtain ⟨d, rfl⟩ := hd; exact l1'.drewN d
          rw [mgo_at hlt] at hre
          have HV := Lib.hid (fun d => Calls.quiet_of (rvec_any C (nc c) (HN.out c hlt) (xc c) (oc c) (cc c) (wr.drewN d) (l1.drewN d)))
          obtain ⟨v, hv⟩ : ∃ v, vcode C (nc c) (xc c) = v := ⟨_, rfl⟩
          rw [hv] at hre HV
          obtain ⟨oo, ho⟩ : ∃ x, oc c = x := ⟨_, rfl⟩
          obtain ⟨n1, hm⟩ : ∃ x, nc c = x := ⟨_, rfl⟩
          obtain ⟨kk, hk⟩ : ∃ x, cc c = x := ⟨_, rfl⟩
          rw [ho, hm, hk] at e1 HV
          clear hcl l1 l1' e1' hv ho hm hk hd
          by_cases hv0 : v = 0
          · subst hv0
            rw [if_neg (by simp)] at hre
            have Hre := Lib.hid hre
            clear hre
            go_wp2_with fail
            go_quiet ((go_at_call 37; exact HV.out _))
            go_wp2_with fail
            go_roundw
            case rel => exact ⟨c + 1, by omega, by go_num, Hre.out, by obtain ⟨d, hd⟩ := HD.out; subst hd; exact ⟨_, World.drewN_drewN _ _ _⟩⟩
            case measure => simp [intOf]; omega
          · rw [if_pos hv0] at hre
            subst hre
            have g3 : (v != 0) = true := by rw [bne_iff_ne]; exact hv0
            clear hv0
            go_wp2_with fail
            go_quiet ((go_at_call 37; exact HV.out _))
            go_wp2_with fail
            go_ret
            exact ⟨rfl, by obtain ⟨d, hd⟩ := HD.out; subst hd; rw [Hbx.out] at HB; exact Hbx.out ▸ below_dn _ (below_dn _ HB.out)⟩
        · have e : c = K := by omega
          subst e
          rw [Nat.sub_self] at hre
          have h0 : r = 0 := hre.symm
          subst h0
          clear hlt hre hd
          go_wp2_with fail
          go_ret
          exact ⟨rfl, by obtain ⟨d, hd⟩ := HD.out; subst hd; rw [Hbx.out] at HB; exact Hbx.out ▸ below_dn _ HB.out⟩

end Go.Proofs.YtbefkngeffpokaaDoor
