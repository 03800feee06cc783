/- Solve of the package. -/
import Derived.Test.YtbefkngeffpokaaDoorMxZ
import Derived.Test.YtbefkngeffpokaaDoorMyH
import Derived.Test.YtbefkngeffpokaaDoorMyN
import Derived.WalkKit
import Derived.WalkSpells
import Derived.WalkLawsBesides
import Derived.Handy
import Derived.Deep.QuietTactic
import Derived.BigQuiet
import Derived.Outline
import Derived.Laws.BitsAllLaws
import Derived.IntWalk
import Derived.Lib.SmallJoins
import Derived.Lib.Hide
import Derived.Deep.DeepCutAuto
import Derived.LoopTactic
import Derived.Deep.RegionWith
import Derived.Laws.CopyOwn
import Derived.Maps.OwnOps
import Derived.Maps.OwnSet
import Derived.Laws.OwnMore
import Derived.Maps.AppendAt
import Derived.RangeFuncNested
import Derived.RangeFuncBound
import Derived.RangeFuncCalls
import Derived.RangeFuncLeaves
import Derived.RangeFuncBox
import Derived.RangeFuncFrom
import Derived.Shelf.Abstract
import Derived.Shelf.RegionOpen
import Derived.OwnWalkIn
import Derived.TacticsInMore
import Derived.LoopNIn
import Derived.LoopIn
import Derived.Deep.RegionHeld3
import Derived.RegionTactic
import Derived.ChangeAlike
namespace Go.Proofs.YtbefkngeffpokaaDoor
set_option linter.unusedVariables false
set_option linter.unusedSimpArgs false
open Go.RowKit


/-- What Solve gives back. -/
def SolRes (C K : Nat) (r : Nat → Nat) (b : Nat) (S : List Nat) (σ : Nat → Nat) (w : World) (e : Ending) (w' : World) : Prop := Below w.heap.size w w' ∧
  ((C ∈ S ∧ ∃ (y : Nat) (fo : Option Addr) (fc : Nat), e = .returned (.tuple #[.slice none 0 0, .slice fo (el K y).length fc, .bool false, .int .i64 0]) ∧ Lz w' fo (el K y).length (lz (el K y)) ∧ Rf K r b y ∧ y < 2 ^ K) ∨
   (C ∉ S ∧ ∃ (xo : Option Addr) (xc : Nat), e = .returned (.tuple #[.slice xo (sol C S σ).length xc, .slice none 0 0, .bool true, .int .i64 0]) ∧ Lz w' xo (sol C S σ).length (lz (sol C S σ))))
set_option maxRecDepth 100000 in
set_option maxHeartbeats 2000000 in
theorem solve_bad (C : Int) (K : Nat) (o : Option Addr) (cap : Nat) (v : Value) (w : World) (c : Int) (h0 : c ≠ 0) (hck : ∀ W, Below w.heap.size w W → Calls Tryd.prog 18 #[mv C o K cap] W fun e w' => e = .returned (.int .i64 c) ∧ Below W.heap.size W w') :
    Calls Tryd.prog 32 #[mv C o K cap, v] w fun e w' => e = .returned (.tuple #[.slice none 0 0, .slice none 0 0, .bool false, .int .i64 c]) ∧ Below w.heap.size w w' := by
  have H := Lib.hid (hck _ (mbel w C o K cap))
  have HB := Lib.hid (mbel w C o K cap)
  have g1 : (c != 0) = true := by rw [bne_iff_ne]; exact h0
  unfold mv at H ⊢
  clear hck h0
  go_enter Tryd.func32, Tryd.ntmps32
  go_wp2_with fail
  refine H.out.mono ?_
  rintro e W1 ⟨rfl, hb1⟩
  have HB1 := Lib.hid (HB.out.trans (Joins.below_le hb1 HB.out.size))
  clear hb1
  go_wp2_with fail
  exact bodyPost_ret (v := .tuple #[.slice none 0 0, .slice none 0 0, .bool false, .int .i64 c]) (by simp [results, Tryd.results32, go_sem]) rfl ⟨rfl, HB1.out⟩
set_option maxRecDepth 100000 in
set_option maxHeartbeats 2000000 in
theorem solve_bad2 (C : Int) (K : Nat) (hK : K ≤ 1000000000) (o : Option Addr) (cap : Nat) (n : Nat) (hn : n ≤ 1000000000) (f : Nat → Int) (p : Option Addr) (cap' : Nat) (w : World) (hL : Lz w p n f) (c : Int) (hc : vcode (K : Int) n f = c) (h0 : c ≠ 0) (hck : ∀ W, Below w.heap.size w W → Calls Tryd.prog 18 #[mv C o K cap] W fun e w' => e = .returned (.int .i64 0) ∧ Below W.heap.size W w') :
    Calls Tryd.prog 32 #[mv C o K cap, .slice p n cap'] w fun e w' => e = .returned (.tuple #[.slice none 0 0, .slice none 0 0, .bool false, .int .i64 c]) ∧ Below w.heap.size w w' := by
  have H := Lib.hid (hck _ (mbel w C o K cap))
  have HB := Lib.hid (mbel w C o K cap)
  have HBx := Lib.hid (mbox w C o K cap)
  have hV := fun W (h : Lz W p n f) => cvec_any (K : Int) n hn f p cap' W h
  rw [hc] at hV
  have HV := Lib.hid hV
  have HL := Lib.hid hL
  have g1 : (c != 0) = true := by rw [bne_iff_ne]; exact h0
  unfold mv at H ⊢
  clear hck h0 hV hL hc
  go_enter Tryd.func32, Tryd.ntmps32
  go_wp2_with fail
  refine H.out.mono ?_
  rintro e W1 ⟨rfl, hb1⟩
  have HB1 := Lib.hid (HB.out.trans (Joins.below_le hb1 HB.out.size))
  have hx1 := HBx.out.below hb1 (by simp)
  have q0 := hx1.cell 0
  have q1 := hx1.cell 1
  clear hb1 hx1
  go_wp2_with fail
  refine (HV.out _ (HL.out.below HB1.out)).mono ?_
  rintro e W2 ⟨rfl, rfl⟩
  go_wp2_with fail
  exact bodyPost_ret (v := .tuple #[.slice none 0 0, .slice none 0 0, .bool false, .int .i64 c]) (by simp [results, Tryd.results32, go_sem]) rfl ⟨rfl, HB1.out⟩
theorem wide_rows {C K b : Nat} {r : Nat → Nat} (hr : ∀ i, i < K → r i < 2 ^ C) : (rows K fun i => cut (C + 1) (aug C r b i)) = rows K (wide C r b) := rows_congr fun i hi => aug_cut (hr i hi)
/-- No refutation was found: the echelon form of the rows with the right side. -/
theorem red_wide {C K b : Nat} {r ρ σ : Nat → Nat} {L S : List Nat} (hr : ∀ i, i < K → r i < 2 ^ C) (h : Bk C K (aug C r b) L ρ L.length) (hcan : Can (C + 1) (rows K (wide C r b)) S σ) : L = S ∧ C ∉ S ∧ ∀ c, c ∈ S → (ρ c).testBit C = (σ c).testBit C := by
  have h1 := bk_can h (D := C + 1) (Nat.le_succ C)
  rw [wide_rows hr] at h1
  obtain ⟨rfl, h2⟩ := h1.uniq hcan
  refine ⟨rfl, fun hC => Nat.lt_irrefl _ (h.ins.lt C hC), fun c hc => ?_⟩
  have h3 := congrFun h2 c
  rw [← h3]
  show _ = (if c ∈ L then cut (C + 1) (ρ c) else 0).testBit C
  rw [if_pos hc, cut_bit, decide_eq_true (Nat.lt_succ_self C), Bool.true_and]
theorem filter_take {S : List Nat} (f : Nat → Bool) {k : Nat} (hk : k < S.length) : (S.take (k + 1)).filter f = if f (S.getD k 0) then (S.take k).filter f ++ [S.getD k 0] else (S.take k).filter f := by
  rw [take_snoc hk, List.filter_append]
  by_cases h : f (S.getD k 0) = true
  · rw [if_pos h, List.filter_cons_of_pos h, List.filter_nil]
  · rw [if_neg h, List.filter_cons_of_neg h, List.filter_nil, List.append_nil]
set_option maxRecDepth 100000 in
set_option maxHeartbeats 8000000 in
theorem solve_good (C K : Nat) (hCK : C + 1 + K ≤ 31) (r : Nat → Nat) (hr : ∀ i, i < K → r i < 2 ^ C) (bb : Nat) (hbb : bb < 2 ^ K) (T : List Nat) (σ : Nat → Nat) (hcan : Can (C + 1) (rows K (wide C r bb)) T σ) (hSort : SortP) (o p : Option Addr) (cap cp : Nat) (w : World) (hM : Mx w o K C r) (hL : Lz w p (el K bb).length (lz (el K bb))) (hTb : Tb w) :
    Calls Tryd.prog 32 #[mv (C : Int) o K cap, .slice p (el K bb).length cp] w (SolRes C K r bb T σ w) := by
  have hC : C ≤ 31 := by omega
  have hK : K ≤ 31 := by omega
  have hb32 : bb < 4294967296 := Nat.lt_of_lt_of_le hbb (Nat.le_trans (Nat.pow_le_pow_right (n := 2) (by omega) (show K ≤ 32 by omega)) (by omega))
  have hb0 := mbel w (C : Int) o K cap
  have H := Lib.hid (check_mx C K (by omega) (by omega) r o cap _ (hM.below hb0))
  have HB := Lib.hid hb0
  have HBx := Lib.hid (mbox w (C : Int) o K cap)
  have hV1 := fun W (h : Below w.heap.size w W) => cvec_any (K : Int) (el K bb).length (by have := el_len K bb; omega) (lz (el K bb)) p cp W (hL.below h)
  rw [vcode_el] at hV1
  have HNb := Lib.hid (fun W => newbits_ok K (by omega) W)
  have hfl := fun W br (h : Below w.heap.size w W) (hx : Bx W br 0) (hbr : w.heap.size ≤ br) => flipall_ok br 0 (by omega) (el K bb) (fun i hi => by have := (el_mem.1 hi).1; omega) (by have := el_len K bb; omega) p cp W hx (hL.below h) (fun hn g off e => by have := hL.blk hn e; omega)
  have e0 : flips 0 (el K bb) = bb := msk_el hbb
  rw [e0] at hfl
  have HRd := Lib.hid (fun W br (h : Below w.heap.size w W) (hx : Bx W br bb) => reduce_right C K hCK r bb hb32 hr (aug C r bb) rfl br o cap W (hM.below h) hx (hTb.here h) hSort)
  obtain ⟨n1, hn1⟩ : ∃ n, (el K bb).length = n := ⟨_, rfl⟩
  rw [hn1] at hV1 hfl ⊢
  have HV1 := Lib.hid hV1
  have HFl := Lib.hid hfl
  have HRr := Lib.hid hr
  have HCan := Lib.hid hcan
  have HTb := Lib.hid hTb
  unfold mv at H HRd ⊢
  clear hV1 hfl hn1 hM hL hb0 hTb hr hcan e0
  go_enter Tryd.func32, Tryd.ntmps32
  go_wp2_with fail
  refine H.out.mono ?_
  rintro e W1 ⟨rfl, hb1⟩
  have HB1 := Lib.hid (HB.out.trans (Joins.below_le hb1 HB.out.size))
  have hx1 := HBx.out.below hb1 (by simp)
  have q0 := hx1.cell 0
  have q1 := hx1.cell 1
  have HX1 := Lib.hid hx1
  clear hb1 hx1
  go_wp2_with fail
  refine (HV1.out _ HB1.out).mono ?_
  rintro e W2 ⟨rfl, rfl⟩
  go_wp2_with fail
  refine (HNb.out _).mono ?_
  rintro e W2 ⟨rfl, hbx, hb2⟩
  have HB2 := Lib.hid (HB1.out.trans (Joins.below_le hb2 HB1.out.size))
  have HX2 := Lib.hid (HX1.out.below hb2 HX1.out.lt)
  have HBv := Lib.hid hbx
  have HSl := Lib.hid HX1.out.lt
  have HSw := Lib.hid HB1.out.size
  obtain ⟨bv, hbv⟩ : ∃ b, W1.heap.size = b := ⟨_, rfl⟩
  rw [hbv] at HBv HSl HSw ⊢
  clear q0 q1 hbx hb2 hbv
  go_wp2_with fail
  refine (HFl.out _ bv HB2.out HBv.out HSw.out).mono ?_
  rintro e W3 ⟨rfl, hbx3, hk3⟩
  have HB3 := Lib.hid (HB2.out.trans ((hk3.le HB2.out.size).below (fun k hk => by cases hk; exact HSw.out)))
  have hx3 : Box W3 w.heap.size #[.int .i64 (C : Int), .slice o K cap] 24 := (hk3.block w.heap.size HX2.out.lt (fun e => by cases e; exact absurd HSl.out (Nat.lt_irrefl _))).trans HX2.out
  have HX3 := Lib.hid hx3
  have HBx3 := Lib.hid hbx3
  have q0 := hx3.cell 0
  have q1 := hx3.cell 1
  clear hbx3 hk3 hx3
  go_wp2_with fail
  refine (HRd.out _ bv HB3.out HBx3.out).mono ?_
  rintro e W4 (⟨J, L, bl, ρ, rv, lv, Q, M, rfl, hst, hp, hbk, hb4⟩ | ⟨o1, n1', c1, o2, n2, c2, fv, M, y, x, rfl, hrow, hpos, hylt, hrf, hsp, hld, hb4⟩)
  · obtain ⟨hLT, hCn, hρ⟩ := red_wide HRr.out hbk HCan.out
    subst hLT
    obtain ⟨ol, cl, rfl, _⟩ := hst.lds.shape' (ints_len L)
    obtain ⟨orv, crv, rfl⟩ := hst.rform
    have HB4 := Lib.hid (HB3.out.trans (Joins.below_le hb4 HB3.out.size))
    have HX4 := Lib.hid (HX3.out.below hb4 HX3.out.lt)
    have HS4 := Lib.hid hst
    have HMem := Lib.hid (show ∀ c, c ∈ L ↔ c ∈ J from fun c => hp.mem_iff)
    have HRho := Lib.hid hρ
    have HCn := Lib.hid hCn
    have HLn := Lib.hid (hbk.ins.len)
    have HLt := Lib.hid (fun c hc => hbk.ins.lt c hc)
    have H32 := Lib.hid (fun c (hc : c ∈ L) => hbk.ins.lt32 (fun j hj => Nat.lt_of_lt_of_le (aug_lt (HRr.out j hj) hj) (Nat.le_trans (Nat.pow_le_pow_right (n := 2) (by omega) (show C + 1 + K ≤ 32 by omega)) (by omega))) hc)
    clear hst hp hbk hb4 hρ hCn q0 q1
    go_wp2_with fail
    have hx5 := Box.new W4 #[.slice orv J.length crv, .map (some M), .slice ol L.length cl, .slice none 0 0] 82
    have hb5 := HB4.out.alloc HB4.out.size (.cells #[.slice orv J.length crv, .map (some M), .slice ol L.length cl, .slice none 0 0] 82)
    have hs5 := HS4.out.alloc (.cells #[.slice orv J.length crv, .map (some M), .slice ol L.length cl, .slice none 0 0] 82)
    have hm5 := HX4.out.alloc (.cells #[.slice orv J.length crv, .map (some M), .slice ol L.length cl, .slice none 0 0] 82)
    obtain ⟨W, hW⟩ : ∃ W, W4.alloc (.cells #[.slice orv J.length crv, .map (some M), .slice ol L.length cl, .slice none 0 0] 82) = W := ⟨_, rfl⟩
    obtain ⟨Y, hY⟩ : ∃ Y, W4.heap.size = Y := ⟨_, rfl⟩
    rw [hW] at hx5 hb5 hs5 hm5 ⊢
    rw [hY] at hx5 ⊢
    have HX5 := Lib.hid hx5
    have HB5 := Lib.hid hb5
    have HS5 := Lib.hid hs5
    have HM5 := Lib.hid hm5
    have r2 := hx5.cell 2
    have hLn := HLn.out
    clear hW hY hx5 hb5 hs5 hm5 r2
    go_loopw [12, 46] (fun u j wr => ∃ k : Nat, k ≤ L.length ∧ j = .int .i64 (k : Int) ∧ Row wr W.heap.size u (ints ((L.take k).filter fun c => (σ c).testBit C)) ∧ Below W.heap.size W wr) (fun _ j _ => L.length - (intOf j).toNat)
    case atStart => exact ⟨0, by omega, by first | trivial | rfl, Row.nil _ _, Below.refl _ _⟩
    case round =>
      obtain ⟨k, hk, rfl, hrw, hbe⟩ := hrel
      have hSo := HS5.out.below hbe
      have hXo := HX5.out.below hbe HX5.out.lt
      have hMo := HM5.out.below hbe (by have := HM5.out.lt; exact this)
      have HRw := Lib.hid hrw
      have HBe := Lib.hid hbe
      by_cases hlt : k < L.length
      · have hk1 : (k : Int) < (L.length : Int) := by omega
        obtain ⟨gl, cgl, hlv, hcl⟩ := hSo.lead_at hlt
        obtain rfl := (Value.slice.inj hlv).1
        clear hlv
        have hmT := HCan.out.getD_mem hlt
        have hft := filter_take (fun c => (σ c).testBit C) hlt
        obtain ⟨c, hc⟩ : ∃ c, L.getD k 0 = c := ⟨_, rfl⟩
        rw [hc] at hcl hmT hft
        have hmJ := (HMem.out c).1 hmT
        have hcC := HLt.out c hmT
        have hlk := hSo.piv.look (c := c) (by omega)
        have hlk2 := (show Piv wr.drew M J.length J from hSo.piv).look (c := c) (by omega)
        obtain ⟨gr, cgr, hrv, hrc⟩ := hSo.at_ hmJ
        obtain rfl := (Value.slice.inj hrv).1
        clear hrv
        have hpx := pix_lt hmJ
        obtain ⟨px, hpxe⟩ : ∃ x, pix J c = x := ⟨_, rfl⟩
        rw [hpxe] at hlk hlk2 hrc hpx
        have hp1 : (px : Int) < (J.length : Int) := by omega
        have hgr : gr < wr.heap.size := by
          rcases own_cases hSo.rws with ⟨e, _⟩ | ⟨g', _, e, _, h2, _⟩
          · cases e
          · have h3 := Option.some.inj (Value.slice.inj e).1
            injection h3 with h4
            omega
        have hhas := fun V (hV : Below wr.heap.size wr V) => still (has_ok (bl c) (ρ c) C (by omega) (H32.out c hmT) V ((hSo.bts c hmJ).below hV (Box.lt (hSo.bts c hmJ))))
        rw [HRho.out c hmT] at hhas
        obtain ⟨q, hq⟩ : ∃ q, (σ c).testBit C = q := ⟨_, rfl⟩
        simp only [hq] at hhas hft
        have HHas := Lib.hid hhas
        have HFt := Lib.hid hft
        have HZ : Hid (∀ V, Below wr.heap.size wr V → Below wr.heap.size wr V ∧ V.cell? ⟨Y, 0, none⟩ = some (.slice (some ⟨gr, 0, none⟩) J.length crv) ∧ V.cell? ⟨Y, 1, none⟩ = some (.map (some M)) ∧ V.cell? ⟨gr, px, none⟩ = some (.slice (some ⟨bl c, 0, none⟩) 1 1) ∧ V.cell? ⟨w.heap.size, 0, none⟩ = some (.int .i64 (C : Int))) := Lib.hid fun V hV => ⟨hV, (hXo.below hV hXo.lt).cell 0, (hXo.below hV hXo.lt).cell 1, (hV.cell (p := ⟨gr, px, none⟩) hgr).trans hrc, (hMo.below hV hMo.lt).cell 0⟩
        obtain ⟨pm, hpm⟩ : ∃ m, (ints ((L.take k).filter fun c => (σ c).testBit C)).length = m := ⟨_, rfl⟩
        obtain ⟨ov, cv, rfl, _⟩ := hrw.shape' hpm
        have HPl := Lib.hid (show (ints ((L.take k).filter fun c => (σ c).testBit C)).length ≤ 1000000 by
          rw [ints_len]
          have h1 := List.length_filter_le (fun c => (σ c).testBit C) (L.take k)
          have h2 := List.length_take_le k L
          omega)
        have HSz := Lib.hid hbe.size
        clear hrw hbe hSo hXo hMo hhas hft hc hmT hmJ hcC hpxe hq hpm hrc hgr
        go_wp2_with fail
        go_cut [60] (fun x wx => x = .bool q ∧ Below wr.heap.size wr wx)
        case first =>
          go_region_held3 (fun V => Below wr.heap.size wr V ∧ V.cell? ⟨Y, 0, none⟩ = some (.slice (some ⟨gr, 0, none⟩) J.length crv) ∧ V.cell? ⟨Y, 1, none⟩ = some (.map (some M)) ∧ V.cell? ⟨gr, px, none⟩ = some (.slice (some ⟨bl c, 0, none⟩) 1 1) ∧ V.cell? ⟨w.heap.size, 0, none⟩ = some (.int .i64 (C : Int))) (first | exact HZ.out _ (below_dn 1 (Below.refl _ _)) | exact HZ.out _ (Below.refl _ _) | exact HZ.out _ (by assumption)) (first | (go_at_call 59; refine (HHas.out _ (by first | assumption | exact And.left (by assumption) | exact Below.refl _ _ | exact below_dn 1 (Below.refl _ _))).mono ?_; rintro e y ⟨rfl, hz⟩; have kk1 : Below wr.heap.size wr y := Below.trans (by first | assumption | exact And.left (by assumption) | exact Below.refl _ _ | exact below_dn 1 (Below.refl _ _)) (Joins.below_le hz (Below.size (by first | assumption | exact And.left (by assumption) | exact Below.refl _ _ | exact below_dn 1 (Below.refl _ _))))))
          all_goals
            go_wp2_with fail
            go_meet
            exact ⟨rfl, by first | assumption | exact below_dn 1 (by assumption)⟩
        case rest =>
          obtain ⟨rfl, hbc⟩ := hcut
          have hrw2 := HRw.out.below hbc
          have HRw2 := Lib.hid hrw2
          have HBc := Lib.hid (HBe.out.trans (hbc.mono HBe.out.size))
          have HSz2 := Lib.hid (Nat.le_trans HSz.out hbc.size)
          clear hbc hrw2
          cases q with
          | true =>
            go_wp2_with (at_builtin; refine app_int _ rfl _ _ rfl W.heap.size _ _ rfl (HRw2.out.alloc _) _ (c : Int) rfl (World.cell?_alloc_mark _ #[_] 3 (0, 0) 0) HPl.out (by have := HSz2.out; simp; omega) ?_; intro gg cv2 w2 hr2 hbb2 hgg; have HR2 := Lib.hid hr2; have HBB := Lib.hid ((HBc.out.alloc HSz2.out _).trans hbb2); clear hr2 hbb2)
            go_roundw
            case rel => exact ⟨k + 1, by omega, by go_num, by rw [HFt.out, if_pos (by first | trivial | rfl), ints_snoc]; exact HR2.out, HBB.out⟩
            case measure => simp [intOf]; omega
          | false =>
            go_wp2_with fail
            go_roundw
            case rel => exact ⟨k + 1, by omega, by go_num, by rw [HFt.out, if_neg (by simp)]; exact HRw2.out, HBc.out⟩
            case measure => simp [intOf]; omega
      · have e : L.length = k := by omega
        subst e
        rw [List.take_length] at hrw
        obtain ⟨ov, cv, rfl, hz⟩ := hrw.lz
        have HZ2 := Lib.hid hz
        have HF := Lib.hid (HB5.out.trans (hbe.mono HB5.out.size))
        clear hrw hbe hz hSo hXo hMo hlt
        go_wp2_with fail
        exact bodyPost_ret (v := .tuple #[.slice ov (L.filter fun c => (σ c).testBit C).length cv, .slice none 0 0, .bool true, .int .i64 0]) (by simp [results, Tryd.results32, go_sem]) rfl ⟨HF.out, .inr ⟨HCn.out, ov, cv, rfl, HZ2.out⟩⟩
  · have hCm := lead_of HRr.out HCan.out hsp hld
    rcases hrow.cases with ⟨_, h0⟩ | ⟨g, cf, rfl, _, _, _⟩
    · have h1 := congrArg List.length h0
      rw [ints_len] at h1
      have h2 : (el K y).length = 0 := h1
      omega
    · obtain ⟨fo, fc, hfe, hz⟩ := hrow.lz
      have hlen := ints_len (el K y)
      have hfo := (Value.slice.inj hfe).1
      have hz2 := hz.more (.cells #[.slice o1 n1' c1, .map (some M), .slice o2 n2 c2, .slice (some ⟨g, 0, none⟩) (ints (el K y)).length cf] 82)
      rw [← hfo] at hz2
      have HB4 := Lib.hid ((HB3.out.trans (Joins.below_le hb4 HB3.out.size)).alloc (by have := (HB3.out.trans (Joins.below_le hb4 HB3.out.size)).size; exact this) (.cells #[.slice o1 n1' c1, .map (some M), .slice o2 n2 c2, .slice (some ⟨g, 0, none⟩) (ints (el K y)).length cf] 82))
      rw [hlen] at hz2 HB4 ⊢
      have HZ2 := Lib.hid hz2
      have HRf := Lib.hid hrf
      have HYl := Lib.hid hylt
      have HCm := Lib.hid hCm
      clear hrow hpos hylt hrf hsp hld hb4 hz hz2 hfe hfo hlen hCm q0 q1
      go_wp2_with fail
      go_quiet (fail)
      go_wp2_with fail
      exact bodyPost_ret (v := .tuple #[.slice none 0 0, .slice (some ⟨g, 0, none⟩) (el K y).length cf, .bool false, .int .i64 0]) (by simp [results, Tryd.results32, go_sem]) rfl ⟨by first | exact HB4.out | exact below_dn _ HB4.out, .inl ⟨HCm.out, y, _, cf, rfl, by first | exact HZ2.out | exact HZ2.out.drewN _, HRf.out, HYl.out⟩⟩

end Go.Proofs.YtbefkngeffpokaaDoor
