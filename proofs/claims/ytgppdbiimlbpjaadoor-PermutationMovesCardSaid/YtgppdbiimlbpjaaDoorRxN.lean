/- PermutationCloses. -/
import Derived.Test.YtgppdbiimlbpjaaDoorRxM
import Derived.WalkKit
import Derived.WalkSpells
import Derived.WalkLawsBesides
import Derived.Handy
import Derived.Deep.QuietTactic
import Derived.BigQuiet
import Derived.Outline
import Derived.Laws.BitsAllLaws
import Derived.IntWalk
import Derived.Lib.SmallJoins
import Derived.Lib.Hide
import Derived.Deep.DeepCutAuto
import Derived.LoopTactic
import Derived.Deep.RegionWith
import Derived.Laws.CopyOwn
import Derived.Maps.OwnOps
import Derived.Maps.OwnSet
import Derived.Laws.OwnMore
import Derived.Maps.AppendAt
import Derived.Test.YtgppdbiimlbpjaaDoorShelF
import Derived.RangeFuncNested
import Derived.RangeFuncBound
import Derived.RangeFuncCalls
import Derived.RangeFuncLeaves
import Derived.RangeFuncBox
import Derived.RangeFuncFrom
import Derived.Shelf.Abstract
import Derived.Shelf.RegionOpen
import Derived.OwnWalkIn
import Derived.TacticsInMore
import Derived.LoopNIn
import Derived.LoopIn
namespace Go.Proofs.YtgppdbiimlbpjaaDoor
set_option linter.unusedVariables false
set_option linter.unusedSimpArgs false
open Go.RowKit


theorem Lpq.lr {w : World} {o : Option Addr} {k n : Nat} {H : List (List Nat)} (hn : 0 < n) (h : Lpq w o k n H) : Lr w o n H := fun hH => by
  obtain ⟨b, off, e, h1, h2⟩ := h.2 (by rw [h.1]; exact hH)
  refine ⟨b, off, e, h1, fun c hc => ?_⟩
  obtain ⟨oc, cc, h3, h4, h5⟩ := h2 c (by rw [h.1]; exact hc)
  exact ⟨_, h3, Lq.one1 hn ⟨h5, h4⟩⟩
theorem Ps.below {w W : World} {o : Option Addr} {K n : Nat} {S : Nat → List Nat} (h : Ps w o K n S) (hb : Below w.heap.size w W) : Ps W o K n S := fun hn => by
  obtain ⟨b, off, e, hlt, hc⟩ := h hn
  refine ⟨b, off, e, Nat.lt_of_lt_of_le hlt hb.size, fun k hk => ?_⟩
  obtain ⟨oc, cc, e1, e2⟩ := hc k hk
  exact ⟨oc, cc, (hb.cell (p := ⟨b, off + k, none⟩) hlt).trans e1, e2.below hb⟩
theorem among_in {W : World} {o p : Option Addr} {n cap cap' GL : Nat} {H : List (List Nat)} (hGL : H.length = GL) (hn : n ≤ 5) (h120 : H.length ≤ 120) (hH : ∀ l, l ∈ H → l.length = n) (hlr : Lr W o n H) {b : List Nat} (hb : b ∈ H) (hz : Lz W p n (zf (fun_ b))) :
    Calls Tryd.prog 45 #[.slice o GL cap, .slice p n cap'] W fun e w' => e = .returned (.bool true) ∧ Below W.heap.size W w' := by
  subst hGL
  obtain ⟨oc, cc, hlv⟩ := hlr.lv
  have := among_any H.length (by omega) o cap oc (fun _ => n) cc (fun c hc => by omega) _ p n cap' (zf (fun_ b)) W hlv hz
  rwa [amg_mem hH (hH b hb), decide_eq_true hb] at this
theorem mem_inAll {n : Nat} {G : List (List Nat)} {x : List Nat} (h : x ∈ pl n) (hg : x ∈ G) : x ∈ inAll n G := List.mem_filter.2 ⟨h, decide_eq_true hg⟩
theorem qres_to {n : Nat} {f g : Nat → Int} {c : Int} {w : World} {e : Ending} {w' : World} (h : QRes n f c w e w') (hfg : ∀ i, i < n → f i = g i) : QRes n g c w e w' := by
  obtain ⟨o, cap, h1, h2, h3⟩ := h
  exact ⟨o, cap, h1, h2.congr hfg, h3⟩
theorem inv_list (n : Nat) (h1 : 1 ≤ n) (h5 : n ≤ 5) (a : List Nat) (ha : a ∈ pl n) (o : Option Addr) (cap : Nat) (w : World) (hL : Lq w o n cap (zf (fun_ a))) : Calls Tryd.prog 13 #[.slice o n cap] w (QRes n (zf (fun_ (lo n (bk n (fun_ a))))) 0 w) :=
  (inv_good n (fun_ a) (pl_good h1 h5 ha).2 o cap w hL).mono fun e w' h => qres_to h fun i hi => by
    rw [(bk_of h5 ha i hi).1]
    unfold zf
    rw [lo_at hi]
theorem comp_list (n : Nat) (h1 : 1 ≤ n) (h5 : n ≤ 5) (a b : List Nat) (ha : a ∈ pl n) (hb : b ∈ pl n) (o p : Option Addr) (cap cap' : Nat) (w : World) (hL : Lq w o n cap (zf (fun_ a))) (hL' : Lq w p n cap' (zf (fun_ b))) : Calls Tryd.prog 22 #[.slice o n cap, .slice p n cap'] w (QRes n (zf (fun_ (cmp2 a b))) 0 w) :=
  (comp_good n (fun_ a) (fun_ b) (pl_good h1 h5 ha).2 (pl_good h1 h5 hb).2 o p cap cap' w hL hL').mono fun e w' h => qres_to h fun i hi => by
    unfold zf
    rw [cmp2_at (by have := (pl_good h1 h5 hb).1; omega)]
theorem one_list (n : Nat) (hn : n ≤ 5) (w : World) : Calls Tryd.prog 46 #[.int .i64 (n : Int)] w (QOne n (zf (fun_ (lo n fun i => i))) w) :=
  (one_ok n (by omega) w).mono fun e w' ⟨o, cap, h1, h2, h3⟩ => ⟨o, cap, h1, h2.congr fun i hi => by unfold zf; rw [lo_at hi], h3⟩

set_option maxRecDepth 100000 in
set_option maxHeartbeats 8000000 in
theorem closes_ok (c : Nat) (hc : c < 256) (K : Nat) (cap : Nat) (o : Option Addr) (oc : Nat → Option Addr) (nc cc : Nat → Nat) (xc : Nat → Nat → Int) (w : World) (hL : Lw w o K oc nc cc xc) : Calls Tryd.prog 10 #[.int .u8 (c : Int), .slice o K cap] w fun e w' => e = .returned (.bool true) ∧ Below w.heap.size w w' := by
  have B := Lib.hid (Below.refl w.heap.size w)
  obtain ⟨n, hn⟩ : ∃ n, c % 4 + 1 = n := ⟨_, rfl⟩
  have h1 : 1 ≤ n := by omega
  have h5 : n ≤ 5 := by omega
  have hc0 : (0 : Int) ≤ (c : Int) := by omega
  have hc1 : (c : Int) ≤ 255 := by omega
  have hnI : (c : Int) % 4 + 1 = (n : Int) := by omega
  by_cases hK4 : 4 < K
  · have g1 : (4 : Int) < (K : Int) := by omega
    have g2 : decide (4 < K) = true := decide_eq_true hK4
    clear hL hn
    go_enter Tryd.func10, Tryd.ntmps10
    go_wp2_with fail
    refine (awake_ok _).mono ?_
    rintro e W1 ⟨rfl, hb⟩
    replace B := Lib.hid (B.out.trans (Joins.below_le hb B.out.size))
    clear hb 
    go_wp2_with fail
    go_ret
    exact ⟨rfl, B.out⟩
  · have g1 : ¬ (4 : Int) < (K : Int) := by omega
    have g2 : decide (4 < K) = false := decide_eq_false hK4
    have hK : K ≤ 1024 := by omega
    have hli := rlist_any n h1 h5 o K cap hK oc nc cc xc w hL
    by_cases hr : lgo n nc xc K 0 = 0
    · rw [hr] at hli
      have hz := lgo_zero hr
      have hS := sof_mem hz
      have HPs := Lib.hid (sof_ps hz hL)
      obtain ⟨S, hSe⟩ : ∃ S, Sof nc xc = S := ⟨_, rfl⟩
      rw [hSe] at hS HPs
      have HSm := Lib.hid hS
      have hgs := gs_grp h1 h5 hS
      have hcl := grp_cl h1 h5 hS
      have hH120 : (inAll n (grp n S K)).length ≤ 120 := by rw [inAll_len h5 hgs]; exact hgs.len h5
      have hdv := hcl.divides h1 h5
      have hle : (grp n S K).length ≤ (pl n).length := by
        have := List.length_filter_le (fun l => decide (l ∈ grp n S K)) (pl n)
        rw [← inAll_len h5 hgs]
        exact this
      have hpos : 0 < (grp n S K).length := List.length_pos_of_mem hcl.one
      have HOm := Lib.hid (mem_inAll (one_mem h1 h5) hcl.one)
      have HGn := Lib.hid (fun k (hk : k < K) => mem_inAll (hS k hk) (gen_in_grp h1 h5 hS hk))
      have HMu := Lib.hid (fun a (ha : a ∈ inAll n (grp n S K)) k (hk : k < K) => mem_inAll (n := n) (G := grp n S K) (x := cmp2 a (S k)) (cmp2_mem h1 h5 (List.mem_filter.1 ha).1 (hS k hk)) (hcl.mul a (of_decide_eq_true (List.mem_filter.1 ha).2) _ (gen_in_grp h1 h5 hS hk)))
      have HIv := Lib.hid (fun a (ha : a ∈ inAll n (grp n S K)) => mem_inAll (n := n) (G := grp n S K) (x := lo n (bk n (fun_ a))) (inv_mem h1 h5 (List.mem_filter.1 ha).1) (hcl.inv a (of_decide_eq_true (List.mem_filter.1 ha).2)))
      have HAs := Lib.hid (fun i (hi : i + 1 < (inAll n (grp n S K)).length) => inAll_asc h1 h5 (grp n S K) hi)
      have HHp := Lib.hid (fun l (hl : l ∈ inAll n (grp n S K)) => (List.mem_filter.1 hl).1)
      have HHl := Lib.hid (fun l (hl : l ∈ inAll n (grp n S K)) => (pl_good h1 h5 (List.mem_filter.1 hl).1).1)
      have hil := inAll_len h5 hgs
      have hgo := fun W (h : Ps W o K n S) => gen_good n h1 h5 K hK S hS o cap W h
      rw [← hil] at hdv hle hpos
      rw [← hil] at hgo
      have HGo := Lib.hid hgo
      have HLi := Lib.hid hli
      clear hli hz hL hn hr hSe hgs hcl hgo hil hS
      generalize inAll n (grp n S K) = H at *
      have h120 := hH120
      obtain ⟨GL, hGL⟩ : ∃ x, H.length = x := ⟨_, rfl⟩
      obtain ⟨PL, hPL⟩ : ∃ x, (pl n).length = x := ⟨_, rfl⟩
      rw [hGL] at hdv hle hpos hH120
      rw [hPL] at hdv hle
      have HGL := Lib.hid hGL
      have HPL := Lib.hid hPL
      have m0 : (GL == 0) = false := by rw [beq_eq_false_iff_ne]; omega
      have m1 : ((GL : Int) == 0) = false := by rw [beq_eq_false_iff_ne]; omega
      have m2 : (PL : Int) % (GL : Int) = 0 := by have : ((PL % GL : Nat) : Int) = 0 := by rw [hdv]; rfl
                                                  rwa [Int.natCast_emod] at this
      have m3 : ¬ (PL : Int) < (GL : Int) := by omega
      have m4 : decide (PL < GL) = false := decide_eq_false (by omega)
      have HB := B
      go_enter Tryd.func10, Tryd.ntmps10
      go_wp2_with fail
      refine (HLi.out).mono ?_
      rintro e w' ⟨rfl, hb⟩
      replace HPs := Lib.hid (HPs.out.below hb)
      replace HB := Lib.hid (HB.out.trans (Joins.below_le hb HB.out.size))
      clear hb 
      go_wp2_with fail
      refine (HGo.out _ HPs.out).mono ?_
      rintro e w' ⟨o1, c1, rfl, hp, hb⟩
      replace HPs := Lib.hid (HPs.out.below hb)
      have HR := Lib.hid (hp.lr (by omega))
      replace HB := Lib.hid (HB.out.trans (Joins.below_le hb HB.out.size))
      clear hb hp
      rw [hGL]
      go_wp2_with fail
      refine (all_good n h1 h5 _).mono ?_
      rintro e w' ⟨o2, c2, rfl, hp, hb⟩
      replace HPs := Lib.hid (HPs.out.below hb)
      replace HR := Lib.hid (HR.out.below hb)
      replace HB := Lib.hid (HB.out.trans (Joins.below_le hb HB.out.size))
      clear hb hp
      rw [hPL]
      go_wp2_with fail
      refine (one_list n h5 _).mono ?_
      rintro e w' ⟨o3, c3, rfl, hq, hb⟩
      replace HPs := Lib.hid (HPs.out.below hb)
      replace HR := Lib.hid (HR.out.below hb)
      replace HB := Lib.hid (HB.out.trans (Joins.below_le hb HB.out.size))
      have HO := Lib.hid hq
      clear hb hq
      go_wp2_with fail
      refine (among_in HGL.out h5 h120 HHl.out HR.out HOm.out HO.out.1).mono ?_
      rintro e Wb ⟨rfl, hb⟩
      replace HPs := Lib.hid (HPs.out.below hb)
      replace HR := Lib.hid (HR.out.below hb)
      replace HB := Lib.hid (HB.out.trans (Joins.below_le hb HB.out.size))
      clear hb 
      go_wp2_with fail
      have HB0 := HB
      clear HB HO B HGo HLi
      go_loopw [78] (fun j wr => ∃ i : Nat, i ≤ GL ∧ j = .int .i64 (i : Int) ∧ Below Wb.heap.size Wb wr) (fun j _ => GL - (intOf j).toNat)
      case atStart => exact ⟨0, by omega, by first | trivial | rfl, Below.refl _ _⟩
      case round =>
        obtain ⟨i, hi, rfl, hbe⟩ := hrel
        have HB := Lib.hid hbe
        by_cases hlt : i < GL
        · have hi1 : (i : Int) < (GL : Int) := by omega
          obtain ⟨bG, fG, rfl, hbG, hcG⟩ := HR.out (by have := HGL.out; omega)
          obtain ⟨u, e1, hone⟩ := hcG i (by have := HGL.out; omega)
          obtain ⟨ga, oa, ka, rfl, _⟩ := id hone
          have e2 := (hbe.cell (p := ⟨bG, fG + i, none⟩) hbG).trans e1
          have hmem : H.getD i [] ∈ H := getD_in (by have := HGL.out; omega)
          have has : 0 < i → cmpl (zf (fun_ (H.getD (i - 1) []))) (zf (fun_ (H.getD i []))) n 0 < 0 := fun h0 => by
            have := HAs.out (i - 1) (by have := HGL.out; omega)
            rwa [show i - 1 + 1 = i by omega] at this
          have hprev : 0 < i → ∃ gp op kp, Wb.cell? ⟨bG, fG + (i - 1), none⟩ = some (.slice (some ⟨gp, op, none⟩) n kp) ∧ Lq Wb (some ⟨gp, op, none⟩) n kp (zf (fun_ (H.getD (i - 1) []))) := fun h0 => by
            obtain ⟨u, e3, hone3⟩ := hcG (i - 1) (by have := HGL.out; omega)
            obtain ⟨gp, op, kp, rfl, _⟩ := id hone3
            exact ⟨gp, op, kp, e3, hone3.lq⟩
          obtain ⟨a, ha⟩ : ∃ a, H.getD i [] = a := ⟨_, rfl⟩
          rw [ha] at hone hmem has
          have HAb := Lib.hid hone.lq
          have HA := Lib.hid (hone.lq.below hbe)
          have HAm := Lib.hid (HHp.out a hmem)
          have HIm := Lib.hid (HIv.out a hmem)
          have HMul := Lib.hid (fun k hk => HMu.out a hmem k hk)
          have HIn := Lib.hid (fun W p cap (h : Lq W p n cap (zf (fun_ a))) => inv_list n h1 h5 a HAm.out p cap W h)
          by_cases h0 : 0 < i
          · obtain ⟨gp, op, kp, p1, hqp⟩ := hprev h0
            have HQp := Lib.hid hqp
            have hq0 := has h0
            obtain ⟨q, hq⟩ : ∃ q, cmpl (zf (fun_ (H.getD (i - 1) []))) (zf (fun_ a)) n 0 = q := ⟨_, rfl⟩
            rw [hq] at hq0
            have HSc := Lib.hid (fun W p1 p2 c1 c2 (h : Lz W p1 n _) (h' : Lz W p2 n _) => by have := scmp_any n (by omega) (zf (fun_ (H.getD (i - 1) []))) (zf (fun_ a)) p1 p2 c1 c2 W h h'; rwa [hq] at this)
            have j1 : (0 : Int) < (i : Int) := by omega
            have j2 : decide (0 < i) = true := decide_eq_true h0
            have j3 : ¬ (0 : Int) ≤ q := by omega
            have HbG := Lib.hid hbG
            clear hcG e1 hone hmem has hprev ha hq hbe hqp
            go_wp2_with fail
            refine (HIn.out _ _ _ HA.out).mono ?_
            rintro e w' ⟨o3, c3, rfl, hq, hb⟩
            replace HA := Lib.hid (HA.out.below hb)
            replace HB := Lib.hid (HB.out.trans (Joins.below_le hb HB.out.size))
            have HBa := Lib.hid hq
            clear hb hq
            have HR2 := Lib.hid (HR.out.below HB.out)
            go_wp2_with fail
            refine (among_in HGL.out h5 h120 HHl.out HR2.out HIm.out HBa.out.1).mono ?_
            rintro e w' ⟨rfl, hb⟩
            replace HA := Lib.hid (HA.out.below hb)
            replace HB := Lib.hid (HB.out.trans (Joins.below_le hb HB.out.size))
            clear hb 
            have q1 := (HB.out.cell (p := ⟨bG, fG + (i - 1), none⟩) HbG.out).trans p1
            have HA2 := Lib.hid (HQp.out.below HB.out)
            go_wp2_with fail
            refine (HSc.out _ _ _ _ _ HA2.out.1 HA.out.1).mono ?_
            rintro e w' ⟨rfl, rfl⟩
            clear q1 p1
            go_wp2_with fail
            go_loopw [112] (fun j wr => ∃ k : Nat, k ≤ K ∧ j = .int .i64 (k : Int) ∧ Below Wb.heap.size Wb wr) (fun j _ => K - (intOf j).toNat)
            case atStart => exact ⟨0, by omega, by first | trivial | rfl, HB.out⟩
            case round =>
              obtain ⟨k, hk, rfl, hbe⟩ := hrel
              have HB := Lib.hid hbe
              by_cases hkl : k < K
              · have hk1 : (k : Int) < (K : Int) := by omega
                obtain ⟨bS, oS, rfl, hbS, hcS⟩ := HPs.out (by omega)
                obtain ⟨os, cs, e1, l1⟩ := hcS k hkl
                have e2 := (hbe.cell (p := ⟨bS, oS + k, none⟩) hbS).trans e1
                have HLb := Lib.hid (l1.below hbe)
                have HLa := Lib.hid (HAb.out.below hbe)
                have HSk := Lib.hid (HSm.out k hkl)
                have HCm := Lib.hid (fun W p q cap1 cap2 (h : Lq W p n cap1 (zf (fun_ a))) (h' : Lq W q n cap2 (zf (fun_ (S k)))) => comp_list n h1 h5 a (S k) HAm.out HSk.out p q cap1 cap2 W h h')
                have HM1 := Lib.hid (HMul.out k hkl)
                have HM2 := Lib.hid (HGn.out k hkl)
                clear hcS e1 l1 hbe
                go_wp2_with fail
                refine (HCm.out _ _ _ _ _ HLa.out HLb.out).mono ?_
                rintro e w' ⟨o5, c5, rfl, hq, hb⟩
                replace HLb := Lib.hid (HLb.out.below hb)
                replace HB := Lib.hid (HB.out.trans (Joins.below_le hb HB.out.size))
                have HX := Lib.hid hq
                clear hb hq
                have HR2 := Lib.hid (HR.out.below HB.out)
                go_wp2_with fail
                refine (among_in HGL.out h5 h120 HHl.out HR2.out HM1.out HX.out.1).mono ?_
                rintro e w' ⟨rfl, hb⟩
                replace HLb := Lib.hid (HLb.out.below hb)
                replace HR2 := Lib.hid (HR2.out.below hb)
                replace HB := Lib.hid (HB.out.trans (Joins.below_le hb HB.out.size))
                clear hb
                go_wp2_with fail
                refine (among_in HGL.out h5 h120 HHl.out HR2.out HM2.out HLb.out.1).mono ?_
                rintro e w' ⟨rfl, hb⟩
                replace HB := Lib.hid (HB.out.trans (Joins.below_le hb HB.out.size))
                clear hb
                go_wp2_with fail
                go_roundw
                case rel => exact ⟨k + 1, by omega, by go_num, HB.out⟩
                case measure => simp [intOf]; omega
              · have ek : k = K := by omega
                subst ek
                clear hkl hbe
                go_wp2_with fail
                go_roundw
                case rel => exact ⟨i + 1, by omega, by go_num, HB.out⟩
                case measure => simp [intOf]; omega
          · have j1 : ¬ (0 : Int) < (i : Int) := by omega
            have j2 : decide (0 < i) = false := decide_eq_false h0
            clear hcG e1 hone hmem has hprev ha hbe h0
            go_wp2_with fail
            refine (HIn.out _ _ _ HA.out).mono ?_
            rintro e w' ⟨o3, c3, rfl, hq, hb⟩
            replace HA := Lib.hid (HA.out.below hb)
            replace HB := Lib.hid (HB.out.trans (Joins.below_le hb HB.out.size))
            have HBa := Lib.hid hq
            clear hb hq
            have HR2 := Lib.hid (HR.out.below HB.out)
            go_wp2_with fail
            refine (among_in HGL.out h5 h120 HHl.out HR2.out HIm.out HBa.out.1).mono ?_
            rintro e w' ⟨rfl, hb⟩
            replace HA := Lib.hid (HA.out.below hb)
            replace HB := Lib.hid (HB.out.trans (Joins.below_le hb HB.out.size))
            clear hb 
            go_wp2_with fail
            go_loopw [112] (fun j wr => ∃ k : Nat, k ≤ K ∧ j = .int .i64 (k : Int) ∧ Below Wb.heap.size Wb wr) (fun j _ => K - (intOf j).toNat)
            case atStart => exact ⟨0, by omega, by first | trivial | rfl, HB.out⟩
            case round =>
              obtain ⟨k, hk, rfl, hbe⟩ := hrel
              have HB := Lib.hid hbe
              by_cases hkl : k < K
              · have hk1 : (k : Int) < (K : Int) := by omega
                obtain ⟨bS, oS, rfl, hbS, hcS⟩ := HPs.out (by omega)
                obtain ⟨os, cs, e1, l1⟩ := hcS k hkl
                have e2 := (hbe.cell (p := ⟨bS, oS + k, none⟩) hbS).trans e1
                have HLb := Lib.hid (l1.below hbe)
                have HLa := Lib.hid (HAb.out.below hbe)
                have HSk := Lib.hid (HSm.out k hkl)
                have HCm := Lib.hid (fun W p q cap1 cap2 (h : Lq W p n cap1 (zf (fun_ a))) (h' : Lq W q n cap2 (zf (fun_ (S k)))) => comp_list n h1 h5 a (S k) HAm.out HSk.out p q cap1 cap2 W h h')
                have HM1 := Lib.hid (HMul.out k hkl)
                have HM2 := Lib.hid (HGn.out k hkl)
                clear hcS e1 l1 hbe
                go_wp2_with fail
                refine (HCm.out _ _ _ _ _ HLa.out HLb.out).mono ?_
                rintro e w' ⟨o5, c5, rfl, hq, hb⟩
                replace HLb := Lib.hid (HLb.out.below hb)
                replace HB := Lib.hid (HB.out.trans (Joins.below_le hb HB.out.size))
                have HX := Lib.hid hq
                clear hb hq
                have HR2 := Lib.hid (HR.out.below HB.out)
                go_wp2_with fail
                refine (among_in HGL.out h5 h120 HHl.out HR2.out HM1.out HX.out.1).mono ?_
                rintro e w' ⟨rfl, hb⟩
                replace HLb := Lib.hid (HLb.out.below hb)
                replace HR2 := Lib.hid (HR2.out.below hb)
                replace HB := Lib.hid (HB.out.trans (Joins.below_le hb HB.out.size))
                clear hb
                go_wp2_with fail
                refine (among_in HGL.out h5 h120 HHl.out HR2.out HM2.out HLb.out.1).mono ?_
                rintro e w' ⟨rfl, hb⟩
                replace HB := Lib.hid (HB.out.trans (Joins.below_le hb HB.out.size))
                clear hb
                go_wp2_with fail
                go_roundw
                case rel => exact ⟨k + 1, by omega, by go_num, HB.out⟩
                case measure => simp [intOf]; omega
              · have ek : k = K := by omega
                subst ek
                clear hkl hbe
                go_wp2_with fail
                go_roundw
                case rel => exact ⟨i + 1, by omega, by go_num, HB.out⟩
                case measure => simp [intOf]; omega
        · have e : i = GL := by omega
          subst e
          have HBf := Lib.hid (HB0.out.trans (Joins.below_le hbe HB0.out.size))
          clear hbe hlt
          go_wp2_with fail
          refine (awake_ok _).mono ?_
          rintro e W7 ⟨rfl, hb⟩
          have HBg := Lib.hid (HBf.out.trans (Joins.below_le hb HBf.out.size))
          clear hb
          go_wp2_with fail
          go_ret
          exact ⟨rfl, HBg.out⟩
    · have h0 : (lgo n nc xc K 0 != 0) = true := by rw [bne_iff_ne]; exact hr
      have HLi := Lib.hid hli
      obtain ⟨r, hr2⟩ : ∃ r, lgo n nc xc K 0 = r := ⟨_, rfl⟩
      rw [hr2] at HLi h0
      clear hL hn hr hr2 hli
      go_enter Tryd.func10, Tryd.ntmps10
      go_wp2_with fail
      refine HLi.out.mono ?_
      rintro e w' ⟨rfl, hb⟩
      replace B := Lib.hid (B.out.trans (Joins.below_le hb B.out.size))
      clear hb
      go_wp2_with fail
      refine (awake_ok _).mono ?_
      rintro e W1 ⟨rfl, hb⟩
      replace B := Lib.hid (B.out.trans (Joins.below_le hb B.out.size))
      clear hb 
      go_wp2_with fail
      go_ret
      exact ⟨rfl, B.out⟩
theorem closes_int (x : Int) (hb : 0 ≤ x ∧ x ≤ 255) (K : Nat) (cap : Nat) (o : Option Addr) (oc : Nat → Option Addr) (nc cc : Nat → Nat) (xc : Nat → Nat → Int) (w : World) (hL : Lw w o K oc nc cc xc) : Calls Tryd.prog 10 #[.int .u8 x, .slice o K cap] w fun e w' => e = .returned (.bool true) ∧ Below w.heap.size w w' := by
  obtain ⟨c, rfl⟩ := Int.eq_ofNat_of_zero_le hb.1
  exact closes_ok c (by omega) K cap o oc nc cc xc w hL

end Go.Proofs.YtgppdbiimlbpjaaDoor
