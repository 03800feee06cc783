/- The specification's Closure. -/
import Derived.Test.YtgppdbiimlbpjaaDoorRxG
import Derived.WalkKit
import Derived.WalkSpells
import Derived.WalkLawsBesides
import Derived.Handy
import Derived.Deep.QuietTactic
import Derived.BigQuiet
import Derived.Outline
import Derived.Laws.BitsAllLaws
import Derived.IntWalk
import Derived.Lib.SmallJoins
import Derived.Lib.Hide
import Derived.Deep.DeepCutAuto
import Derived.LoopTactic
import Derived.Deep.RegionWith
import Derived.Laws.CopyOwn
import Derived.Maps.OwnOps
import Derived.Maps.OwnSet
import Derived.Laws.OwnMore
import Derived.Maps.AppendAt
import Derived.Test.YtgppdbiimlbpjaaDoorShelF
import Derived.RangeFuncNested
import Derived.RangeFuncBound
import Derived.RangeFuncCalls
import Derived.RangeFuncLeaves
import Derived.RangeFuncBox
import Derived.RangeFuncFrom
import Derived.Shelf.Abstract
import Derived.Shelf.RegionOpen
import Derived.OwnWalkIn
import Derived.TacticsInMore
import Derived.LoopNIn
import Derived.LoopIn
import Derived.Deep.RegionHeld3
namespace Go.Proofs.YtgppdbiimlbpjaaDoor
set_option linter.unusedVariables false
set_option linter.unusedSimpArgs false
open Go.RowKit


theorem Lr.lv {w : World} {o : Option Addr} {n : Nat} {H : List (List Nat)} (h : Lr w o n H) : ∃ oc cc, Lv w o H.length oc (fun _ => n) cc (fun c => zf (fun_ (H.getD c []))) := by
  by_cases e : 0 < H.length
  · obtain ⟨b, off, rfl, hb, hc⟩ := h e
    have key : ∀ c, ∃ p : Option Addr × Nat, c < H.length → w.cell? ⟨b, off + c, none⟩ = some (.slice p.1 n p.2) ∧ Lz w p.1 n (zf (fun_ (H.getD c []))) := fun c => by
      by_cases hcl : c < H.length
      · obtain ⟨u, h1, g, og, cap, rfl, h2, _, h3⟩ := hc c hcl
        exact ⟨(_, _), fun _ => ⟨h1, fun _ => ⟨g, og, rfl, h2, h3⟩⟩⟩
      · exact ⟨(none, 0), fun h => absurd h hcl⟩
    exact ⟨fun c => (Classical.choose (key c)).1, fun c => (Classical.choose (key c)).2, fun _ => ⟨b, off, rfl, hb, fun c hcl => Classical.choose_spec (key c) hcl⟩⟩
  · exact ⟨fun _ => none, fun _ => 0, fun h => absurd h e⟩
theorem amg_mem {n : Nat} {G : List (List Nat)} {b : List Nat} (hG : ∀ l ∈ G, l.length = n) (hb : b.length = n) : amg G.length (fun _ => n) (fun c => zf (fun_ (G.getD c []))) n (zf (fun_ b)) = decide (b ∈ G) := by
  have same : ∀ l m : List Nat, l.length = n → m.length = n → (∀ i, i < n → zf (fun_ l) i = zf (fun_ m) i) → l = m := fun l m hl hm h => by
    apply List.ext_getElem (by omega)
    intro i h1 h2
    have := h i (by omega)
    unfold zf fun_ at this
    rw [List.getD_eq_getElem?_getD, List.getD_eq_getElem?_getD, List.getElem?_eq_getElem h1, List.getElem?_eq_getElem h2, Option.getD_some, Option.getD_some] at this
    omega
  unfold amg
  refine decide_eq_decide.2 ⟨fun ⟨c, hc, h⟩ => ?_, fun h => ?_⟩
  · unfold eqb at h
    have h2 := (of_decide_eq_true h).2
    have hm : G.getD c [] ∈ G := by rw [List.getD_eq_getElem?_getD, List.getElem?_eq_getElem hc]; exact List.getElem_mem _
    rw [← same _ _ (hG _ hm) hb h2]
    exact hm
  · obtain ⟨c, hc, e⟩ := List.mem_iff_getElem.1 h
    refine ⟨c, hc, ?_⟩
    have e2 : G.getD c [] = b := by rw [List.getD_eq_getElem?_getD, List.getElem?_eq_getElem hc]; exact e
    show eqb n (zf (fun_ (G.getD c []))) n (zf (fun_ b)) = true
    rw [e2]
    exact eqb_self fun _ _ => rfl
/-- Of the first c lists of L those that G holds. -/
def fil (G L : List (List Nat)) (c : Nat) : List (List Nat) := (L.take c).filter fun l => decide (l ∈ G)
theorem fil_zero (G L : List (List Nat)) : fil G L 0 = [] := rfl
theorem fil_all (n : Nat) (G : List (List Nat)) : fil G (pl n) (pl n).length = inAll n G := by unfold fil inAll; rw [List.take_length]
theorem fil_in {G L : List (List Nat)} {c : Nat} {l : List Nat} (hc : c < L.length) (hl : L.getD c [] = l) (h : decide (l ∈ G) = true) : fil G L (c + 1) = fil G L c ++ [l] := by
  unfold fil
  rw [List.take_succ_eq_append_getElem hc, List.filter_append]
  have e : L[c] = l := by rw [← hl, List.getD_eq_getElem?_getD, List.getElem?_eq_getElem hc]; rfl
  rw [e, List.filter_cons, if_pos h]
  rfl
theorem fil_out {G L : List (List Nat)} {c : Nat} {l : List Nat} (hc : c < L.length) (hl : L.getD c [] = l) (h : decide (l ∈ G) = false) : fil G L (c + 1) = fil G L c := by
  unfold fil
  rw [List.take_succ_eq_append_getElem hc, List.filter_append]
  have e : L[c] = l := by rw [← hl, List.getD_eq_getElem?_getD, List.getElem?_eq_getElem hc]; rfl
  have hnot : l ∉ G := of_decide_eq_false h
  rw [e]
  simp [hnot]
theorem fil_len (G L : List (List Nat)) (c : Nat) : (fil G L c).length ≤ c := by
  unfold fil
  refine Nat.le_trans (List.length_filter_le _ _) ?_
  rw [List.length_take]
  omega
theorem inAll_len {n : Nat} (h5 : n ≤ 5) {G : List (List Nat)} (hG : Gs n G) : (inAll n G).length = G.length := by
  refine List.Perm.length_eq ((List.perm_ext_iff_of_nodup ((pl_nodup ⟨n, by omega⟩).1.filter _) hG.nodup).2 fun l => ?_)
  show l ∈ (pl n).filter (fun l => decide (l ∈ G)) ↔ l ∈ G
  rw [List.mem_filter]
  exact ⟨fun h => of_decide_eq_true h.2, fun h => ⟨hG.mem l h, decide_eq_true h⟩⟩
theorem Grq.form {w : World} {R n : Nat} {v : Value} {vs : List Value} {G : List (List Nat)} (h : Grq w R n v vs G) : ∃ o cap, v = .slice o G.length cap := by
  obtain ⟨o, cap, e, _⟩ := h.lr
  exact ⟨o, cap, e⟩
theorem Lq.one1 {w : World} {o : Option Addr} {n cap : Nat} {l : List Nat} (hn : 0 < n) (h : Lq w o n cap (zf (fun_ l))) : One1 w (.slice o n cap) n l := by
  obtain ⟨b, off, rfl, hb, hc⟩ := h.1 hn
  exact ⟨b, off, cap, rfl, hb, h.2, hc⟩
theorem Lr.of {w : World} {o : Option Addr} {n cap : Nat} {H : List (List Nat)} {R : Nat} {vs : List Value} (h : Grq w R n (.slice o H.length cap) vs H) : Lr w o n H := by
  obtain ⟨o', cap', e, hl⟩ := h.lr
  cases e
  exact hl
/-- A new list comes back. -/
def QNew (n : Nat) (g : Nat → Int) (w : World) (e : Ending) (w' : World) : Prop := ∃ o cap, e = .returned (.slice o n cap) ∧ Lq w' o n cap g ∧ Below w.heap.size w w' ∧ ∀ g off, o = some ⟨g, off, none⟩ → w.heap.size ≤ g
theorem Row.newAt {w : World} {R g off k cap : Nat} {l : List Int} (h : Row w R (.slice (some ⟨g, off, none⟩) k cap) l) : R ≤ g := (h.ownLt g rfl).1
set_option maxHeartbeats 1000000 in
theorem times_new (n : Nat) (hn : n ≤ 65536) (a b : Nat → Nat) (hb : ∀ i, i < n → b i < n) (o p : Option Addr) (cap cap' : Nat) (w : World) (hL : Lz w o n (zf a)) (hL' : Lz w p n (zf b)) : Calls Tryd.prog 52 #[.slice o n cap, .slice p n cap'] w (QNew n (zf fun i => a (b i)) w) := by
  have HL := Lib.hid hL
  have HL' := Lib.hid hL'
  have HBl := Lib.hid hb
  clear hL hL' hb
  go_enter Tryd.func52, Tryd.ntmps52
  go_wp2_with fail
  go_loopw [5, 6] (fun v j wr => ∃ i : Nat, i ≤ n ∧ j = .int .i64 (i : Int) ∧ Row wr w.heap.size v (lsf i (zf fun i => a (b i))) ∧ Below w.heap.size w wr) (fun _ j _ => n - (intOf j).toNat)
  case atStart => exact ⟨0, by omega, rfl, World.ownsRow_nil _ _ _ _, Below.refl _ _⟩
  case round =>
    obtain ⟨i, hi, rfl, hR, hB⟩ := hrel
    have HR := Lib.hid hR
    have HB := Lib.hid hB
    clear hR hB
    by_cases hlt : i < n
    · have hi1 : (i : Int) < (n : Int) := by omega
      have hm : (lsf i (zf fun i => a (b i))).length = i := by simp [lsf]
      obtain ⟨bl, ofs, rfl, hbl, hcl⟩ := HL.out (by omega)
      obtain ⟨bg, ofg, rfl, hbg, hcg⟩ := HL'.out (by omega)
      have hbi := HBl.out i hlt
      have c1 := (HB.out.cell (p := ⟨bg, ofg + i, none⟩) hbg).trans (hcg i hlt)
      have c2 := (HB.out.cell (p := ⟨bl, ofs + b i, none⟩) hbl).trans (hcl (b i) hbi)
      unfold zf at c1
      obtain ⟨x, hx⟩ : ∃ x, b i = x := ⟨_, rfl⟩
      rw [hx] at c1 c2 hbi
      obtain ⟨z, hz⟩ : ∃ z, zf a x = z := ⟨_, rfl⟩
      rw [hz] at c2
      have HZ := Lib.hid (show (zf fun i => a (b i)) i = z by rw [← hz, ← hx]; rfl)
      have hx1 : (x : Int) < (n : Int) := by omega
      clear hcl hcg hx hz
      obtain ⟨ov, cv, rfl, hov⟩ := HR.out.shape' hm
      have HM := Lib.hid hm
      clear hm hov
      go_wp2_with (at_builtin; refine app_int _ rfl _ _ rfl w.heap.size _ _ rfl (HR.out.alloc _) wr.heap.size z rfl (World.cell?_alloc_mark _ #[_] 3 (0, 0) 0) (by rw [HM.out]; omega) (by have := HB.out.size; simp; omega) ?_; intro gg cv2 w2 hr2 hbb2 hgg; rw [HM.out] at hr2 ⊢; have HR2 := Lib.hid hr2; have HBB := Lib.hid hbb2; clear hr2 hbb2)
      go_roundw
      case rel => exact ⟨i + 1, by omega, by go_num, by rw [← lsf_snoc, HZ.out]; exact HR2.out, (HB.out.alloc HB.out.size _).trans HBB.out⟩
      case measure => simp [intOf]; omega
    · have e : i = n := by omega
      subst e
      obtain ⟨ov, cv, rfl, hq⟩ := row_q HR.out
      have HQ := Lib.hid hq
      clear hq
      go_wp2_with fail
      go_ret
      exact ⟨_, _, rfl, HQ.out, HB.out, fun g off e => by subst e; exact HR.out.newAt⟩

set_option maxRecDepth 100000 in
set_option maxHeartbeats 8000000 in
theorem closure_ok (n : Nat) (h1 : 1 ≤ n) (h5 : n ≤ 5) (K : Nat) (hK : K ≤ 1024) (S : Nat → List Nat) (hS : ∀ k, k < K → S k ∈ pl n) (o : Option Addr) (cap : Nat) (w : World) (hL : Ps w o K n S) :
    Calls Tryd.prog 60 #[.int .i64 (n : Int), .slice o K cap] w fun e w' => ∃ o' cap', e = .returned (.slice o' (inAll n (grp n S K)).length cap') ∧ Lr w' o' n (inAll n (grp n S K)) ∧ Below w.heap.size w w' := by
  obtain ⟨i0, hi0, hz0, hz1, hz2⟩ := info_parts infoL
  have hid : Good n fun i => i := ⟨h1, h5, fun p hp => hp, fun p q _ _ e => e⟩
  have hloid : lo n (fun i => i) ∈ pl n := lo_mem hid
  have HI := Lib.hid (one_ok n (by omega) w)
  have HL := Lib.hid hL
  have HS := Lib.hid hS
  have HEv := Lib.hid (fun W => every_ok n h1 h5 W)
  obtain ⟨Rf, hRf⟩ : ∃ R, grp n S K = R := ⟨_, rfl⟩
  rw [hRf]
  have HRf := Lib.hid hRf
  have HId := Lib.hid hloid
  clear hL hS hRf hid hloid
  go_enter Tryd.func60, Tryd.ntmps60
  go_wp2_with fail
  refine HI.out.mono ?_
  rintro e w1 ⟨o1, c1, rfl, hq1, hb1⟩
  have hone := (hq1.congr (g := zf (fun_ (lo n fun i => i))) fun i hi => by unfold zf; rw [lo_at hi]).one1 (by omega)
  have hgA : Grq (w1.alloc (.cells #[.slice o1 n c1] 22)) w.heap.size n (.slice (some ⟨w1.heap.size, 0, none⟩) 1 1) [.slice o1 n c1] [lo n fun i => i] := by
    refine ⟨World.ownsRow_lit w1 #[.slice o1 n c1] 1 hb1.size (by decide) rfl, fun c hc => ?_⟩
    have hc0 : c = 0 := by simp at hc; omega
    subst hc0
    obtain ⟨g, og, cg, e, hg, _⟩ := id hone
    exact ⟨_, rfl, hone.below ((Below.refl _ _).alloc (Nat.le_refl _) _), fun g' off m cap e2 => by rw [e] at e2; cases e2; simp [Value.ownBlock]; omega⟩
  have HGA := Lib.hid hgA
  have HBA := Lib.hid (hb1.alloc hb1.size (.cells #[.slice o1 n c1] 22))
  have h00 : Gs n [lo n fun i => i] := ⟨by simp, fun l hl => by simp at hl; subst hl; exact HId.out⟩
  have HG00 := Lib.hid h00
  have HR0 : Hid (gl S K (200 - 0) 0 [lo n fun i => i] = Rf) := HRf
  clear hone hgA h00 hq1 hb1 HI HId
  go_wp2_with fail
  go_loopw [5, 6] (fun v j wl => ∃ (i : Nat) (G : List (List Nat)) (vs : List Value), i ≤ G.length ∧ 0 < G.length ∧ j = .int .i64 (i : Int) ∧ Grq wl w.heap.size n v vs G ∧ Gs n G ∧ gl S K (200 - i) i G = Rf ∧ Below w.heap.size w wl) (fun _ j _ => 200 - (intOf j).toNat)
  case atStart => exact ⟨0, [lo n fun i => i], _, by omega, by simp, by first | trivial | rfl, HGA.out, HG00.out, HR0.out, HBA.out⟩
  case round =>
    clear HGA HG00 HR0 HBA
    obtain ⟨i, G, vs, hi, hpos, rfl, hgp, hgs, hgl, hbe⟩ := hrel
    obtain ⟨len, hlen⟩ : ∃ len, G.length = len := ⟨_, rfl⟩
    obtain ⟨ov, cv, hv⟩ := hgp.form
    rw [hlen] at hv
    subst hv
    have HGp := Lib.hid hgp
    have HGs := Lib.hid hgs
    have HGl := Lib.hid hgl
    have HBe := Lib.hid hbe
    have h120 := hgs.len h5
    have HLen := Lib.hid hlen
    rw [hlen] at hi h120 hpos
    clear hgp hgs hgl hbe hlen
    by_cases hlt : i < len
    · have hi1 : (i : Int) < (len : Int) := by omega
      have hx := HGs.out.at_ (show i < G.length by rw [HLen.out]; exact hlt)
      have HX := Lib.hid hx
      have HXg := Lib.hid (pl_good h1 h5 hx)
      clear hx
      obtain ⟨x, hxx⟩ : ∃ x, G.getD i [] = x := ⟨_, rfl⟩
      rw [hxx] at HX HXg
      have HXX := Lib.hid hxx
      clear hxx
      go_wp2_with fail
      go_loopw [5, 7] (fun v j wl => ∃ (kk : Nat) (G' : List (List Nat)) (vs : List Value), kk ≤ K ∧ j = .int .i64 (kk : Int) ∧ G' = gin S x G kk ∧ Grq wl w.heap.size n v vs G' ∧ Below w.heap.size w wl) (fun _ j _ => K - (intOf j).toNat)
      case atStart => exact ⟨0, G, _, by omega, by first | trivial | rfl, rfl, HGp.out, HBe.out⟩
      case round =>
        clear HGp HBe
        obtain ⟨kk, G', vs', hkk, rfl, hG', hgp, hbe⟩ := hrel
        have hkeep := gin_keep S x G kk
        have hgs' := HGs.out.gin h1 h5 HS.out HX.out kk hkk
        rw [← hG'] at hkeep hgs'
        have h120' := hgs'.len h5
        obtain ⟨len', hlen'⟩ : ∃ l, G'.length = l := ⟨_, rfl⟩
        obtain ⟨ov', cv', hv⟩ := hgp.form
        have hlr := Lr.of (hv ▸ hgp)
        rw [hlen'] at hv
        subst hv
        have hlt' : i < G'.length := by have := HLen.out; omega
        have hge := hkeep.2 i (by have := HLen.out; omega)
        rw [HXX.out] at hge
        have hle := hkeep.1
        rw [HLen.out] at hle
        have HLe := Lib.hid hle
        have HG' := Lib.hid hG'
        have HGp := Lib.hid hgp
        have HBe := Lib.hid hbe
        have HGs' := Lib.hid hgs'
        have HLen' := Lib.hid hlen'
        have hll : len' ≤ 120 := by omega
        have hsz := hbe.size
        clear hG' hgp hbe hkeep hgs' hle
        by_cases hkl : kk < K
        · obtain ⟨bS, oS, rfl, hbS, hcS⟩ := HL.out (by omega)
          obtain ⟨oc, cc, e1, l1⟩ := hcS kk hkl
          obtain ⟨bG, fG, rfl, hbG, hcG⟩ := hlr (by omega)
          obtain ⟨u, e2, hone⟩ := hcG i hlt'
          rw [hge] at hone
          obtain ⟨gx, ox, kx, rfl, hgx, hkx, hcx⟩ := hone
          have hbm := cmp2_mem h1 h5 (HS.out kk hkl) HX.out
          have HBg := Lib.hid (pl_good h1 h5 hbm)
          have HTi : Hid (∀ W, Below wr.heap.size wr W → Calls Tryd.prog 52 #[.slice oc n cc, .slice (some ⟨gx, ox, none⟩) n kx] W fun e w' => ∃ o cap, e = .returned (.slice o n cap) ∧ Lq w' o n cap (zf (fun_ (cmp2 (S kk) x))) ∧ Below W.heap.size W w' ∧ ∀ g off, o = some ⟨g, off, none⟩ → wr.heap.size ≤ g) := Lib.hid fun W hW => (times_new n (by omega) (fun_ (S kk)) (fun_ x) HXg.out.2.perm.lt oc (some ⟨gx, ox, none⟩) cc kx W ((l1.1.below HBe.out).below hW) (fun _ => ⟨gx, ox, rfl, Nat.lt_of_lt_of_le hgx hW.size, fun q hq => (hW.cell (p := ⟨gx, ox + q, none⟩) hgx).trans (hcx q hq)⟩)).mono fun e w' ⟨o', c', h1', h2', h3', h4'⟩ => ⟨o', c', h1', h2'.congr fun q hq => by unfold zf; rw [cmp2_at (by have := HXg.out.1; omega)], h3', fun g off e => Nat.le_trans hW.size (h4' g off e)⟩
          obtain ⟨b, hb⟩ : ∃ b, cmp2 (S kk) x = b := ⟨_, rfl⟩
          rw [hb] at HTi HBg
          have hst : gin S x G (kk + 1) = gstep b G' := by
            show gstep (cmp2 (S kk) x) (gin S x G kk) = _
            rw [hb, ← HG'.out]
          have HSt := Lib.hid hst
          have hk1 : (kk : Int) < (K : Int) := by omega
          have hi2 : (i : Int) < (len' : Int) := by omega
          have q1 := (HBe.out.cell (p := ⟨bS, oS + kk, none⟩) hbS).trans e1
          have hbS' : bS < wr.heap.size := by omega
          have HZ : Hid (∀ V, Below wr.heap.size wr V → Below wr.heap.size wr V ∧ V.cell? ⟨bS, oS + kk, none⟩ = some (.slice oc n cc) ∧ V.cell? ⟨bG, fG + i, none⟩ = some (.slice (some ⟨gx, ox, none⟩) n kx)) := Lib.hid fun V hV => ⟨hV, (hV.cell (p := ⟨bS, oS + kk, none⟩) hbS').trans q1, (hV.cell (p := ⟨bG, fG + i, none⟩) hbG).trans e2⟩
          have HSz := Lib.hid hsz
          clear hcS e1 l1 hcG e2 hcx hb hst hbm hge hlt' hgx hbG hlr q1 hbS' hbS hkx hsz
          go_wp2_with fail
          go_cut [8] (fun v wx => ∃ o1 c1, v = .slice o1 n c1 ∧ Lq wx o1 n c1 (zf (fun_ b)) ∧ Below wr.heap.size wr wx ∧ ∀ g off, o1 = some ⟨g, off, none⟩ → wr.heap.size ≤ g)
          case first =>
            go_region_held3 (fun V => Below wr.heap.size wr V ∧ V.cell? ⟨bS, oS + kk, none⟩ = some (.slice oc n cc) ∧ V.cell? ⟨bG, fG + i, none⟩ = some (.slice (some ⟨gx, ox, none⟩) n kx)) (first | exact HZ.out _ (below_dn 1 (Below.refl _ _)) | exact HZ.out _ (Below.refl _ _) | exact HZ.out _ (by assumption)) (first | (go_at_call 52; refine (HTi.out _ (by first | assumption | exact And.left (by assumption))).mono ?_; rintro e y ⟨o1, c1, rfl, hq, hz, hnw⟩; have kk1 : Below wr.heap.size wr y := Below.trans (by first | assumption | exact And.left (by assumption)) (Joins.below_le hz (Below.size (by first | assumption | exact And.left (by assumption))))))
            all_goals
              go_wp2_with fail
              go_meet
              exact ⟨_, _, rfl, by assumption, by assumption, by assumption⟩
          case rest =>
            obtain ⟨o1, c1, rfl, hq, hbc, hnw⟩ := hcut
            have HNw := Lib.hid hnw
            clear hnw
            have HQ := Lib.hid hq
            have HBc := Lib.hid hbc
            have HGc := Lib.hid (HGp.out.below hbc)
            have hGlen : ∀ l ∈ G', l.length = n := fun l hl => (pl_good h1 h5 (HGs'.out.mem l hl)).1
            have hgl := HGc.out
            rw [← HLen'.out] at hgl
            obtain ⟨oc', cc', hlv⟩ := (Lr.of hgl).lv
            have ham := among_any G'.length (by have := HLen'.out; omega) _ cv' oc' (fun _ => n) cc' (fun c hc => by omega) _ o1 n c1 (zf (fun_ b)) _ hlv hq.1
            have hszx := Nat.le_trans HSz.out hbc.size
            rw [amg_mem hGlen HBg.out.1, HLen'.out] at ham
            clear hgl hGlen
            clear hq hbc hlv
            have HBx := Lib.hid (HBe.out.trans (Joins.below_le HBc.out HSz.out))
            by_cases hin : b ∈ G'
            · rw [decide_eq_true hin] at ham
              have Ham := Lib.hid ham
              have HG2 := Lib.hid (show gstep b G' = G' by unfold gstep; rw [if_pos hin])
              have HSx := Lib.hid hszx
              clear ham hin hszx
              go_wp2_with fail
              refine Ham.out.mono ?_
              rintro e w3 ⟨rfl, hb3⟩
              have HG3 := Lib.hid (HGc.out.below hb3)
              have HB3 := Lib.hid (HBx.out.trans (Joins.below_le hb3 HSx.out))
              clear hb3
              go_wp2_with fail
              go_roundw
              case rel => exact ⟨kk + 1, G', _, by omega, by go_num, by rw [HSt.out, HG2.out], HG3.out, HB3.out⟩
              case measure => simp [intOf]; omega
            · rw [decide_eq_false hin] at ham
              have Ham := Lib.hid ham
              have HG2 := Lib.hid (show gstep b G' = G' ++ [b] by unfold gstep; rw [if_neg hin])
              have HSx := Lib.hid hszx
              clear ham hin hszx
              go_wp2_with fail
              refine Ham.out.mono ?_
              rintro e w3 ⟨rfl, hb3⟩
              have HG3 := Lib.hid (HGc.out.below hb3)
              have HB3 := Lib.hid (HBx.out.trans (Joins.below_le hb3 HSx.out))
              have HGa := Lib.hid (HG3.out.below ((Below.refl _ _).alloc (Nat.le_refl _) (.cells #[.slice o1 n c1] 22)))
              have hon : (w3.alloc (.cells #[.slice o1 n c1] 22)).ownsRow w.heap.size 22 1 (.slice (some ⟨bG, fG, none⟩) len' cv') len' vs' := by have h := HGa.out.own; rw [HLen'.out] at h; exact h
              have HOn := Lib.hid hon
              have hone := ((HQ.out.below hb3).one1 (by omega)).below ((Below.refl _ _).alloc (Nat.le_refl _) (.cells #[.slice o1 n c1] 22))
              have HOne := Lib.hid hone
              have hne : ∀ g off m cap, (Value.slice o1 n c1) = .slice (some ⟨g, off, none⟩) m cap → (Value.slice (some ⟨bG, fG, none⟩) len' cv').ownBlock ≠ some g := fun g off m cap e e2 => by
                cases e
                have h1 := HNw.out _ _ rfl
                have h2 := (own_block_lt HGp.out _ e2).2
                omega
              have HNe := Lib.hid hne
              have HSz3 := Lib.hid HB3.out.size
              clear hb3 hon hone hne HSz
              have HSz := HSz3
              clear HSz3
              go_wp2_with (at_builtin; go_loud (refine wpList_append_own_at _ rfl (.tmp 40) (.tmp 42) 45 rfl w.heap.size 22 i0 (.slice none 0 0) 1 24 Tryd.underlying45 hi0 hz0 hz1 hz2 rfl (by decide) _ len' vs' rfl HOn.out ⟨w3.heap.size, 0, none⟩ 1 1 [.slice o1 n c1] rfl rfl (cell_one_new _ _ _) (by intro x hx; simp at hx; rw [hx]; rfl) (by unfold maxLen; omega) (by omega) (by have := HSz.out; simp; omega) ?_; intro v' w5 hown hgrow _ hat; have HOw5 := Lib.hid hown; have HGr5 := Lib.hid hgrow; have HAt5 := Lib.hid hat; clear hown hgrow hat))
              have hst5 := HGa.out.app (H := [b]) (us := [.slice o1 n c1]) (fun d hd => by
                have hd0 : d = 0 := by simp at hd; omega
                subst hd0
                exact ⟨_, rfl, HOne.out, HNe.out⟩) (by rw [HLen'.out]; exact HOw5.out) HGr5.out HAt5.out
              have HSt5 := Lib.hid hst5
              have HB5 := Lib.hid ((HB3.out.alloc HSz.out (.cells #[.slice o1 n c1] 22)).grown HGr5.out (by have := HSz.out; simp; omega) (fun k hk => (own_block_lt HGa.out k hk).1))
              clear hst5 HOw5 HGr5 HAt5
              go_roundw
              case rel => exact ⟨kk + 1, _, _, by omega, by go_num, by rw [HSt.out, HG2.out], HSt5.out, HB5.out⟩
              case measure => simp [intOf]; omega
        · have ek : kk = K := by omega
          subst ek
          clear hkl hge hlt' hlr
          go_wp2_with fail
          go_roundw
          case rel => exact ⟨i + 1, G', _, by have := HLe.out; have := HLen'.out; omega, by have := HLe.out; have := HLen'.out; omega, by go_num, HGp.out, HGs'.out, by have := HGl.out; rw [gl_step (by rw [HLen.out]; exact hlt) (by omega), HXX.out, ← HG'.out] at this; exact this, HBe.out⟩
          case measure => simp [intOf]; omega
    · have e : i = len := by omega
      subst e
      have hR : G = Rf := by have := HGl.out; rwa [gl_end (by rw [HLen.out]; omega)] at this
      subst hR
      clear hlt
      go_wp2_with fail
      refine (HEv.out _).mono ?_
      rintro e w2 ⟨oa, ca, rfl, hla, hb2⟩
      have hpl120 : (pl n).length ≤ 120 := (pl_nodup ⟨n, by omega⟩).2
      have HP := Lib.hid (fun l (hl : l ∈ pl n) => (pl_good h1 h5 hl).1)
      have hGlen : ∀ l ∈ G, l.length = n := fun l hl => HP.out l (HGs.out.mem l hl)
      have HGl' := Lib.hid hGlen
      have hg2 := HGp.out.below hb2
      rw [← HLen.out] at hg2
      obtain ⟨oc', cc', hlv⟩ := (Lr.of hg2).lv
      have HLv := Lib.hid hlv
      have HLA := Lib.hid hla
      have HB2 := Lib.hid (HBe.out.trans (Joins.below_le hb2 HBe.out.size))
      have hFin := fil_all n G
      have HFin := Lib.hid hFin
      obtain ⟨P, hP⟩ : ∃ P, pl n = P := ⟨_, rfl⟩
      rw [hP] at HP HLA HFin hpl120
      rw [hP]
      have HNd := Lib.hid hP
      obtain ⟨PL, hPL⟩ : ∃ x, P.length = x := ⟨_, rfl⟩
      rw [hPL] at hpl120 ⊢
      have HPL := Lib.hid hPL
      clear hla hb2 hGlen hg2 hlv hFin hP hPL HGp HBe
      go_wp2_with fail
      go_loopw [9, 11] (fun v j wl => ∃ (c : Nat) (vs : List Value), c ≤ PL ∧ j = .int .i64 (c : Int) ∧ Grq wl w2.heap.size n v vs (fil G P c) ∧ Below w2.heap.size w2 wl) (fun _ j _ => PL - (intOf j).toNat)
      case atStart => exact ⟨0, [], by omega, by first | trivial | rfl, by rw [fil_zero]; exact Grq.nil _ _ _, Below.refl _ _⟩
      case round =>
        obtain ⟨c, vs', hc, rfl, hg, hbw⟩ := hrel
        have HBw := Lib.hid hbw
        by_cases hlt : c < PL
        · have hc1 : (c : Int) < (PL : Int) := by omega
          obtain ⟨bA, fA, rfl, hbA, hcA⟩ := HLA.out (by have := HPL.out; omega)
          obtain ⟨u, e2, hone⟩ := hcA c (by have := HPL.out; omega)
          obtain ⟨ga, oa', ka, rfl, hga, hka, hca⟩ := id hone
          have q2 := (hbw.cell (p := ⟨bA, fA + c, none⟩) hbA).trans e2
          have hmem : P.getD c [] ∈ P := by
            rw [List.getD_eq_getElem?_getD, List.getElem?_eq_getElem (by have := HPL.out; omega)]
            exact List.getElem_mem _
          have hl2 : Lz wr (some ⟨ga, oa', none⟩) n (zf (fun_ (P.getD c []))) := fun _ => ⟨ga, oa', rfl, Nat.lt_of_lt_of_le hga hbw.size, fun q hq => (hbw.cell (p := ⟨ga, oa' + q, none⟩) hga).trans (hca q hq)⟩
          have hlv2 : Lv wr ov G.length oc' (fun _ => n) cc' (fun c => zf (fun_ (G.getD c []))) := fun hK => by
            obtain ⟨bv, fv, e, h1v, h2v⟩ := HLv.out hK
            exact ⟨bv, fv, e, Nat.lt_of_lt_of_le h1v hbw.size, fun d hd => ⟨(hbw.cell (p := ⟨bv, fv + d, none⟩) h1v).trans (h2v d hd).1, (h2v d hd).2.below hbw⟩⟩
          have hG120 : G.length ≤ 120 := HGs.out.len h5
          have ham := among_any G.length (by omega) ov cv oc' (fun _ => n) cc' (fun c hc => by omega) _ (some ⟨ga, oa', none⟩) n ka (zf (fun_ (P.getD c []))) wr hlv2 hl2
          rw [amg_mem HGl'.out (HP.out _ hmem)] at ham
          have hxo := hone.below hbw
          have hfl := fil_len G P c
          obtain ⟨x, hx⟩ : ∃ x, P.getD c [] = x := ⟨_, rfl⟩
          rw [hx] at ham hxo
          obtain ⟨F, hF⟩ : ∃ F, fil G P c = F := ⟨_, rfl⟩
          rw [hF] at hg hfl
          obtain ⟨ow, cw, hv⟩ := hg.form
          obtain ⟨fl', hfl'⟩ : ∃ x, F.length = x := ⟨_, rfl⟩
          rw [hfl'] at hv hfl
          subst hv
          have HFl := Lib.hid hfl'
          have HXo := Lib.hid hxo
          have HG := Lib.hid hg
          have HF := Lib.hid hF
          have hG2 := HLen.out
          rw [hG2] at ham
          have HSz0 := Lib.hid hbw.size
          have hx0 := hx
          have HGaLt := Lib.hid hga
          by_cases hin : x ∈ G
          · rw [decide_eq_true hin] at ham
            have Ham := Lib.hid ham
            have HSt := Lib.hid (fil_in (G := G) (by have := HPL.out; omega) hx (decide_eq_true hin))
            clear ham hin hg hbw hx hF hfl' hxo hmem hl2 hlv2 hca hone e2 hcA hG2 hx0 hga hka hbA hG120
            go_wp2_with fail
            refine Ham.out.mono ?_
            rintro e w3 ⟨rfl, hb3⟩
            have HG3 := Lib.hid (HG.out.below hb3)
            have hb3' := HBw.out.trans (Joins.below_le hb3 HSz0.out)
            have q3 := (hb3.cell (p := ⟨bA, fA + c, none⟩) (World.block_lt_of_cell? _ _ q2)).trans q2
            have HB3 := Lib.hid hb3'
            have HGa := Lib.hid (HG3.out.below ((Below.refl _ _).alloc (Nat.le_refl _) (.cells #[.slice (some ⟨ga, oa', none⟩) n ka] 22)))
            have hon : (w3.alloc (.cells #[.slice (some ⟨ga, oa', none⟩) n ka] 22)).ownsRow w2.heap.size 22 1 (.slice ow fl' cw) fl' vs' := by have h := HGa.out.own; rw [HFl.out] at h; exact h
            have HOn := Lib.hid hon
            have HOne := Lib.hid ((HXo.out.below hb3).below ((Below.refl _ _).alloc (Nat.le_refl _) (.cells #[.slice (some ⟨ga, oa', none⟩) n ka] 22)))
            have hne : ∀ g off m cap, (Value.slice (some ⟨ga, oa', none⟩) n ka) = .slice (some ⟨g, off, none⟩) m cap → (Value.slice ow fl' cw).ownBlock ≠ some g := fun g off m cap e e2 => by
              cases e
              have h2 := (own_block_lt HG.out _ e2).1
              have h3 := HGaLt.out
              omega
            have HNe := Lib.hid hne
            have HSz := Lib.hid hb3'.size
            clear hb3 hon hne hb3' q2
            go_wp2_with (at_builtin; go_loud (refine wpList_append_own_at _ rfl (.tmp 58) (.tmp 63) 45 rfl w2.heap.size 22 i0 (.slice none 0 0) 1 24 Tryd.underlying45 hi0 hz0 hz1 hz2 rfl (by decide) _ fl' vs' rfl HOn.out ⟨w3.heap.size, 0, none⟩ 1 1 [.slice (some ⟨ga, oa', none⟩) n ka] rfl rfl (cell_one_new _ _ _) (by intro x hx; simp at hx; rw [hx]; rfl) (by unfold maxLen; omega) (by omega) (by have := HSz.out; simp; omega) ?_; intro v' w5 hown hgrow _ hat; have HOw5 := Lib.hid hown; have HGr5 := Lib.hid hgrow; have HAt5 := Lib.hid hat; clear hown hgrow hat))
            have hst5 := HGa.out.app (H := [x]) (us := [.slice (some ⟨ga, oa', none⟩) n ka]) (fun d hd => by
              have hd0 : d = 0 := by simp at hd; omega
              subst hd0
              exact ⟨_, rfl, HOne.out, HNe.out⟩) (by rw [HFl.out]; exact HOw5.out) HGr5.out HAt5.out
            have HSt5 := Lib.hid hst5
            have HB5 := Lib.hid ((HB3.out.alloc HSz.out (.cells #[.slice (some ⟨ga, oa', none⟩) n ka] 22)).grown HGr5.out (by have := HSz.out; simp; omega) (fun k hk => (own_block_lt HGa.out k hk).1))
            clear hst5 HOw5 HGr5 HAt5
            go_roundw
            case rel => exact ⟨c + 1, _, by omega, by go_num, by rw [HSt.out, HF.out]; exact HSt5.out, HB5.out⟩
            case measure => simp [intOf]; omega
          · rw [decide_eq_false hin] at ham
            have Ham := Lib.hid ham
            have HSt := Lib.hid (fil_out (G := G) (by have := HPL.out; omega) hx (decide_eq_false hin))
            clear ham hin hg hbw hx hF hfl' hxo hmem hl2 hlv2 hca hone e2 hcA hG2 hx0 hga hka hbA hG120
            go_wp2_with fail
            refine Ham.out.mono ?_
            rintro e w3 ⟨rfl, hb3⟩
            have HG3 := Lib.hid (HG.out.below hb3)
            have HB3 := Lib.hid (HBw.out.trans (Joins.below_le hb3 HSz0.out))
            clear hb3
            go_wp2_with fail
            go_roundw
            case rel => exact ⟨c + 1, vs', by omega, by go_num, by rw [HSt.out, HF.out]; exact HG3.out, HB3.out⟩
            case measure => simp [intOf]; omega
        · have e : c = PL := by omega
          subst e
          rw [← HPL.out, HFin.out] at hg
          obtain ⟨of, cf, rfl, hlf⟩ := hg.lr
          have HLf := Lib.hid hlf
          have HBf := Lib.hid (HB2.out.trans (Joins.below_le HBw.out HB2.out.size))
          clear hg hbw hlf hlt
          go_wp2_with fail
          go_ret
          exact ⟨_, _, rfl, HLf.out, HBf.out⟩

end Go.Proofs.YtgppdbiimlbpjaaDoor
