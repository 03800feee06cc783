/- permutation.All. -/
import Derived.Test.YtgppdbiimlbpjaaDoorRxD
import Derived.WalkKit
import Derived.WalkSpells
import Derived.WalkLawsBesides
import Derived.Handy
import Derived.Deep.QuietTactic
import Derived.BigQuiet
import Derived.Outline
import Derived.Laws.BitsAllLaws
import Derived.IntWalk
import Derived.Lib.SmallJoins
import Derived.Lib.Hide
import Derived.Deep.DeepCutAuto
import Derived.LoopTactic
import Derived.Deep.RegionWith
import Derived.Laws.CopyOwn
import Derived.Maps.OwnOps
import Derived.Maps.OwnSet
import Derived.Laws.OwnMore
import Derived.Maps.AppendAt
import Derived.Test.YtgppdbiimlbpjaaDoorShelF
import Derived.RangeFuncNested
import Derived.RangeFuncBound
import Derived.RangeFuncCalls
import Derived.RangeFuncLeaves
import Derived.RangeFuncBox
import Derived.RangeFuncFrom
import Derived.Shelf.Abstract
import Derived.Shelf.RegionOpen
import Derived.OwnWalkIn
import Derived.TacticsInMore
import Derived.LoopNIn
import Derived.LoopIn
namespace Go.Proofs.YtgppdbiimlbpjaaDoor
set_option linter.unusedVariables false
set_option linter.unusedSimpArgs false
open Go.RowKit


theorem all_bad (z : Int) (h : z < 1 ∨ 5 < z) (w : World) : Calls Tryd.prog 26 #[.int .i64 z] w (QRes 0 (fun _ => 0) 2 w) := by
  rcases h with h | h
  · go_enter Tryd.func26, Tryd.ntmps26
    go_wp2_with fail
    go_ret2
    exact ⟨_, _, rfl, ⟨Lz.nil, by omega⟩, Below.refl _ _⟩
  · go_enter Tryd.func26, Tryd.ntmps26
    go_wp2_with fail
    go_ret2
    exact ⟨_, _, rfl, ⟨Lz.nil, by omega⟩, Below.refl _ _⟩

set_option maxRecDepth 100000 in
set_option maxHeartbeats 4000000 in
theorem all_good (n : Nat) (h1 : 1 ≤ n) (h5 : n ≤ 5) (w : World) :
    Calls Tryd.prog 26 #[.int .i64 (n : Int)] w fun e w' => ∃ o cap, e = .returned (.tuple #[.slice o (pl n).length cap, .int .i64 0]) ∧ Lr w' o n (pl n) ∧ Below w.heap.size w w' := by
  obtain ⟨i0, hi0, hz0, hz1, hz2⟩ := info_parts infoL
  obtain ⟨Rf, hRf⟩ : ∃ R, pl n = R := ⟨_, rfl⟩
  rw [hRf]
  have HRf := Lib.hid hRf
  have HAll := Lib.hid (fun (i : Nat) (hi : i ≤ 5) => lev_all ⟨n, by omega⟩ ⟨i, by omega⟩)
  have hlit : Lr ((w.alloc (.cells #[] 3)).alloc (.cells #[.slice (some ⟨w.heap.size, 0, none⟩) 0 0] 22)) (some ⟨w.heap.size + 1, 0, none⟩) 0 (lev n 0) := fun _ => by
    refine ⟨w.heap.size + 1, 0, rfl, by simp, fun c hc => ?_⟩
    have hc0 : c = 0 := by have : (lev n 0).length = 1 := rfl; omega
    subst hc0
    refine ⟨.slice (some ⟨w.heap.size, 0, none⟩) 0 0, ?_, w.heap.size, 0, 0, rfl, by simp; omega, by omega, fun i hi => by omega⟩
    have e : (w.alloc (.cells #[] 3)).heap.size = w.heap.size + 1 := World.size_alloc _ _
    rw [← e]
    exact World.cell?_alloc_mark _ #[_] 22 (0, 0) 0
  have HLit := Lib.hid hlit
  have hbe0 : Below w.heap.size w ((w.alloc (.cells #[] 3)).alloc (.cells #[.slice (some ⟨w.heap.size, 0, none⟩) 0 0] 22)) := ((Below.refl _ _).alloc (Nat.le_refl _) _).alloc (by simp) _
  have HB0 := Lib.hid hbe0
  clear hRf hlit hbe0
  go_enter Tryd.func26, Tryd.ntmps26
  go_wp2_with fail
  go_loopw [4, 18] (fun v j wr => ∃ (i : Nat) (o : Option Addr) (K cap : Nat), i ≤ n ∧ j = .int .i64 (i : Int) ∧ v = .slice o K cap ∧ K = (lev n i).length ∧ Lr wr o i (lev n i) ∧ Below w.heap.size w wr) (fun _ j _ => n - (intOf j).toNat)
  case atStart => exact ⟨0, some ⟨w.heap.size + 1, 0, none⟩, 1, 1, by omega, by first | trivial | rfl, by first | trivial | rfl, by first | trivial | rfl, HLit.out, HB0.out⟩
  case round =>
    obtain ⟨i, o, K, cap, hi, rfl, rfl, hK, hl, hbe⟩ := hrel
    clear HLit HB0
    have HK := Lib.hid hK
    have HL := Lib.hid hl
    have HBe := Lib.hid hbe
    have hK120 : K ≤ 120 := by rw [hK]; exact (HAll.out i (by omega)).1
    clear hK hl hbe
    by_cases hlt : i < n
    · have hi1 : (i : Int) < (n : Int) := by omega
      obtain ⟨Wo, rfl⟩ : ∃ W : World, W = wr := ⟨_, rfl⟩
      go_wp2_with fail
      go_loopw [5, 22] (fun v j wr => ∃ (c : Nat) (vs : List Value), c ≤ K ∧ j = .int .i64 (c : Int) ∧ Grq wr Wo.heap.size (i + 1) v vs (part n (lev n i) c) ∧ Below Wo.heap.size Wo wr) (fun _ j _ => K - (intOf j).toNat)
      case atStart => exact ⟨0, [], by omega, by first | trivial | rfl, by rw [part_zero]; exact Grq.nil _ _ _, Below.refl _ _⟩
      case round =>
        obtain ⟨c, vs, hc, rfl, hg, hbo⟩ := hrel
        have HG := Lib.hid hg
        have HBo := Lib.hid hbo
        clear hg hbo
        by_cases hck : c < K
        · have hck1 : (c : Int) < (K : Int) := by omega
          obtain ⟨bL, oL, rfl, hbL, hcL⟩ := HL.out (by have := HK.out; omega)
          obtain ⟨u, q1, a0, f0, k0, rfl, hg0, hk0, hc0⟩ := hcL c (by have := HK.out; omega)
          have q2 := (HBo.out.cell (p := ⟨bL, oL + c, none⟩) hbL).trans q1
          have hmem : (lev n i).getD c [] ∈ lev n i := by
            rw [List.getD_eq_getElem?_getD, List.getElem?_eq_getElem (by have := HK.out; omega)]
            exact List.getElem_mem _
          have hall := (HAll.out i (by omega)).2 _ hmem
          have hps := part_step (n := n) (L := lev n i) (c := c) (by have := HK.out; omega)
          have hpl := part_len n (lev n i) c
          obtain ⟨a, ha⟩ : ∃ a, (lev n i).getD c [] = a := ⟨_, rfl⟩
          rw [ha] at hall hps hc0
          have hal : a.length = i := hall.1
          have HPs := Lib.hid hps
          have HC0 := Lib.hid hc0
          have HG0 := Lib.hid hg0
          have HAl := Lib.hid hal
          have hcn : c * n ≤ 600 := Nat.le_trans (Nat.mul_le_mul (show c ≤ 120 by omega) h5) (by omega)
          have HPl := Lib.hid (show (part n (lev n i) c).length ≤ 600 by omega)
          clear hcL q1 hmem hall hps hpl hc0 ha hg0 hal hcn
          go_wp2_with fail
          go_loopw [5, 27] (fun v j wi => ∃ (x : Nat) (vs : List Value), x ≤ n ∧ j = .int .i64 (x : Int) ∧ Grq wi Wo.heap.size (i + 1) v vs (part n (lev n i) c ++ ext a x) ∧ Below Wo.heap.size Wo wi) (fun _ j _ => n - (intOf j).toNat)
          case atStart => exact ⟨0, vs, by omega, by first | trivial | rfl, by rw [ext_zero, List.append_nil]; exact HG.out, HBo.out⟩
          case round =>
            clear HG HBo q2
            obtain ⟨x, vs', hx, rfl, hg, hbo⟩ := hrel
            have HBo := Lib.hid hbo
            by_cases hxn : x < n
            · have hxn1 : (x : Int) < (n : Int) := by omega
              obtain ⟨G, hG⟩ : ∃ G, part n (lev n i) c ++ ext a x = G := ⟨_, rfl⟩
              rw [hG] at hg
              have hGl : G.length ≤ 700 := by
                rw [← hG, List.length_append]
                have h1 := ext_len a x
                have h2 := HPl.out
                omega
              have hcells : ∀ k, k < i → wr.cell? ⟨a0, f0 + k, none⟩ = some (.int .i64 (zf (fun_ a) k)) := fun k hk => (hbo.cell (p := ⟨a0, f0 + k, none⟩) HG0.out).trans (HC0.out k hk)
              have hsz := hbo.size
              have HCells := Lib.hid hcells
              obtain ⟨ov, cv, hv, _⟩ := hg.lr
              obtain ⟨len, hlen⟩ : ∃ len, G.length = len := ⟨_, rfl⟩
              rw [hlen] at hv hGl
              subst hv
              have HGr := Lib.hid hg
              have HGe := Lib.hid hG
              have HLen := Lib.hid hlen
              have HSz := Lib.hid hsz
              have hg0w : a0 < wr.heap.size := Nat.lt_of_lt_of_le HG0.out hsz
              have HG0w := Lib.hid hg0w
              clear hg hbo hG hcells hsz hlen hg0w
              cases hcon : a.contains x with
              | true =>
                have hy : ∃ l, l < i ∧ zf (fun_ a) l = (x : Int) := by have := contains_at.1 hcon; rwa [HAl.out] at this
                have HCon := Lib.hid (contains_yes i k0 a0 f0 (x : Int) (zf (fun_ a)) (by omega) hy wr HCells.out)
                have HE := Lib.hid (ext_in hcon)
                clear hcon hy
                go_wp2_with fail
                refine HCon.out.mono ?_
                rintro e w' ⟨rfl, rfl⟩
                go_wp2_with fail
                go_roundw
                case rel => exact ⟨x + 1, vs', by omega, by go_num, by rw [HE.out, HGe.out]; exact HGr.out, HBo.out⟩
                case measure => simp [intOf]; omega
              | false =>
                have hy : ¬ ∃ l, l < i ∧ zf (fun_ a) l = (x : Int) := by have := contains_atF hcon; rwa [HAl.out] at this
                have HCon := Lib.hid (contains_not i k0 a0 f0 (x : Int) (zf (fun_ a)) (by omega) hy wr HCells.out)
                have HE := Lib.hid (ext_out hcon)
                have HCl := Lib.hid (clone_ok a0 f0 i k0 (by omega) (zf (fun_ a)) wr HG0w.out HCells.out)
                clear hcon hy
                go_wp2_with fail
                refine HCon.out.mono ?_
                rintro e w' ⟨rfl, rfl⟩
                go_wp2_with fail
                refine HCl.out.mono ?_
                rintro e w1 ⟨v1, rfl, hr1, hb1⟩
                have hr1a : Row (w1.alloc (.cells #[.int .i64 (x : Int)] 3)) wr.heap.size v1 (lsf i (zf (fun_ a))) := hr1.alloc _
                have HR1 := Lib.hid hr1a
                have HB1 := Lib.hid hb1
                have hll : (lsf i (zf (fun_ a))).length = i := by simp [lsf]
                have HLl := Lib.hid hll
                have HS1 := Lib.hid hb1.size
                clear hr1 hb1 hll hr1a
                go_wp2_with (first
                  | (at_builtin; go_loud (refine app_int2 _ rfl (.tmp 36) (.tmp 38) rfl wr.heap.size v1 (lsf i (zf (fun_ a))) rfl HR1.out w1.heap.size (x : Int) rfl (World.cell?_alloc_mark _ #[_] 3 (0, 0) 0) (by rw [HLl.out]; omega) (by have := HS1.out; simp; omega) ?_; intro g2 cap2 w2 hr2 hg2 hat2; rw [HLl.out] at hr2 ⊢; have HR2 := Lib.hid hr2; have HG2 := Lib.hid hg2; have hb2 : Below wr.heap.size wr w2 := (HB1.out.alloc HS1.out _).grown hg2 (by have := HS1.out; simp; omega) (fun k hk => (HR1.out.ownLt k hk).1); have HB2 := Lib.hid hb2; have hs2 := hb2.size; have hgr2 := HGr.out.below hb2; have HGr2 := Lib.hid (hgr2.below (Below.refl _ _ |>.alloc (Nat.le_refl _) (.cells #[.slice (some ⟨g2, 0, none⟩) (i + 1) cap2] 22))); have HOn2 := Lib.hid (show (w2.alloc (.cells #[.slice (some ⟨g2, 0, none⟩) (i + 1) cap2] 22)).ownsRow Wo.heap.size 22 1 (.slice ov len cv) len vs' by have h := HGr2.out.own; rw [HLen.out] at h; exact h); clear hr2 hg2 hat2 hb2 hgr2))
                  | (at_builtin; go_loud (refine wpList_append_own_at _ rfl (.tmp 34) (.tmp 40) 45 rfl Wo.heap.size 22 i0 (.slice none 0 0) 1 24 Tryd.underlying45 hi0 hz0 hz1 hz2 rfl (by decide) _ len vs' rfl HOn2.out ⟨w2.heap.size, 0, none⟩ 1 1 [.slice (some ⟨g2, 0, none⟩) (i + 1) cap2] rfl rfl (cell_one_new _ _ _) (by intro x hx; simp at hx; rw [hx]; rfl) (by unfold maxLen; omega) (by omega) (by have := HSz.out; simp; omega) ?_; intro v' w5 hown hgrow _ hat; have HOw5 := Lib.hid hown; have HGr5 := Lib.hid hgrow; have HAt5 := Lib.hid hat; clear hown hgrow hat)))
                have hgg := HR2.out.off
                have honeA := (row_one HAl.out HR2.out).below ((Below.refl _ _).alloc (Nat.le_refl _) (.cells #[.slice (some ⟨g2, 0, none⟩) (i + 1) cap2] 22))
                have hst := HGr2.out.app (H := [a ++ [x]]) (us := [.slice (some ⟨g2, 0, none⟩) (i + 1) cap2]) (fun d hd => by
                  have hd0 : d = 0 := by simp at hd; omega
                  subst hd0
                  exact ⟨_, rfl, honeA, fun g off m cap e => by cases e; intro e2; have := (own_block_lt HGr.out _ e2).2; omega⟩) (by rw [HLen.out]; exact HOw5.out) HGr5.out HAt5.out
                have HSt := Lib.hid hst
                have hB5 := ((HBo.out.trans (Joins.below_le HB2.out HSz.out)).alloc (by have := HSz.out; have := HB2.out.size; omega) (.cells #[.slice (some ⟨g2, 0, none⟩) (i + 1) cap2] 22)).grown HGr5.out (by have := HSz.out; have := HB2.out.size; simp; omega) (fun k hk => (own_block_lt HGr.out k hk).1)
                have HB5 := Lib.hid hB5
                clear hst hgg honeA HOw5 HGr5 HAt5 hB5
                go_roundw
                case rel => exact ⟨x + 1, _, by omega, by go_num, by rw [HE.out, ← List.append_assoc, HGe.out]; exact HSt.out, HB5.out⟩
                case measure => simp [intOf]; omega
            · have e : x = n := by omega
              subst e
              have HG := Lib.hid hg
              clear hg hbo hxn
              go_wp2_with fail
              go_roundw
              case rel => exact ⟨c + 1, vs', by omega, by go_num, by rw [HPs.out]; exact HG.out, HBo.out⟩
              case measure => simp [intOf]; omega
        · have e : c = K := by omega
          subst e
          have hall : part n (lev n i) c = lev n (i + 1) := by rw [HK.out, part_all]; rfl
          obtain ⟨o2, cap2, hv, hlr⟩ := HG.out.lr
          subst hv
          rw [hall] at hlr
          have hln : (part n (lev n i) c).length = (lev n (i + 1)).length := by rw [hall]
          have HLr := Lib.hid hlr
          have HLn := Lib.hid hln
          have HBf := Lib.hid (HBe.out.trans (Joins.below_le HBo.out HBe.out.size))
          clear hlr hln hall hck
          go_wp2_with fail
          go_roundw
          case rel => exact ⟨i + 1, o2, _, cap2, by omega, by go_num, rfl, HLn.out, HLr.out, HBf.out⟩
          case measure => simp [intOf]; omega
    · have e : i = n := by omega
      subst e
      have hp : lev i i = Rf := by rw [← HRf.out]; exact lev_pl ⟨i, by omega⟩
      have hkl : K = Rf.length := by rw [HK.out, hp]
      subst hkl
      have HLf := Lib.hid (show Lr wr o i Rf by rw [← hp]; exact HL.out)
      clear hp hlt
      go_wp2_with fail
      go_ret2
      exact ⟨_, _, rfl, HLf.out, HBe.out⟩

end Go.Proofs.YtgppdbiimlbpjaaDoor
