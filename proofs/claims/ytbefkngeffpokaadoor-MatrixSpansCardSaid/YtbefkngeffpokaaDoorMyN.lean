/- reduce with a right side. -/
import Derived.Test.YtbefkngeffpokaaDoorMyF
import Derived.WalkKit
import Derived.WalkSpells
import Derived.WalkLawsBesides
import Derived.Handy
import Derived.Deep.QuietTactic
import Derived.BigQuiet
import Derived.Outline
import Derived.Laws.BitsAllLaws
import Derived.IntWalk
import Derived.Lib.SmallJoins
import Derived.Lib.Hide
import Derived.Deep.DeepCutAuto
import Derived.LoopTactic
import Derived.Deep.RegionWith
import Derived.Laws.CopyOwn
import Derived.Maps.OwnOps
import Derived.Maps.OwnSet
import Derived.Laws.OwnMore
import Derived.Maps.AppendAt
import Derived.RangeFuncNested
import Derived.RangeFuncBound
import Derived.RangeFuncCalls
import Derived.RangeFuncLeaves
import Derived.RangeFuncBox
import Derived.RangeFuncFrom
import Derived.Shelf.Abstract
import Derived.Shelf.RegionOpen
import Derived.OwnWalkIn
import Derived.TacticsInMore
import Derived.LoopNIn
import Derived.LoopIn
import Derived.Deep.RegionHeld3
import Derived.RegionTactic
import Derived.ChangeAlike
namespace Go.Proofs.YtbefkngeffpokaaDoor
set_option linter.unusedVariables false
set_option linter.unusedSimpArgs false
open Go.RowKit


/-- What reduce gives back with a right side: no refutation, or one. -/
def RedRes2 (C K : Nat) (r : Nat → Nat) (b : Nat) (w : World) (e : Ending) (w' : World) : Prop := RedRes C K (aug C r b) w e w' ∨
  ∃ (o1 : Option Addr) (n1 c1 : Nat) (o2 : Option Addr) (n2 c2 : Nat) (fv : Value) (M y x : Nat), e = .returned (.agg #[.slice o1 n1 c1, .map (some M), .slice o2 n2 c2, fv]) ∧ Row w' w.heap.size fv (ints (el K y)) ∧ 0 < (el K y).length ∧ y < 2 ^ K ∧ Rf K r b y ∧ Sp (rows K (aug C r b)) x ∧ Ld x C ∧ Below w.heap.size w w'
set_option maxRecDepth 100000 in
set_option maxHeartbeats 8000000 in
theorem reduce_right (C K : Nat) (hCK : C + 1 + K ≤ 31) (r0 : Nat → Nat) (b : Nat) (hb32 : b < 4294967296) (hr0 : ∀ i, i < K → r0 i < 2 ^ C) (r : Nat → Nat) (hrr : r = aug C r0 b) (br : Nat) (o : Option Addr) (cap : Nat) (w : World) (hM : Mx w o K C r0) (hbr : Bx w br b) (hT : Tb w) (hSort : SortP) :
    Calls Tryd.prog 56 #[mv (C : Int) o K cap, .slice (some ⟨br, 0, none⟩) 1 1] w (RedRes2 C K r0 b w) := by
  have hC : C ≤ 31 := by omega
  have hK : K ≤ 31 := by omega
  have hr : ∀ i, i < K → r i < 2 ^ (C + 1 + K) := fun i hi => by rw [hrr]; exact aug_lt (hr0 i hi) hi
  have HR0 := Lib.hid hr0
  have HRR := Lib.hid hrr
  have HBr := Lib.hid hbr
  have HBl := Lib.hid (Box.lt hbr)
  have ewd : ((C : Int) + (1 + (K : Int))) = ((C + 1 + K : Nat) : Int) := by omega
  clear hr0 hbr hrr
  have hmk := run_map0
  obtain ⟨b1, b2, b3, b4⟩ := red_start (C : Int) o K cap w (fun _ => 0) (fun _ => 0)
  obtain ⟨S, hS⟩ : ∃ S, w.heap.size = S := ⟨_, rfl⟩
  rw [hS] at b1 b2 b3 b4
  have HB := Lib.hid b1
  have HA := Lib.hid b2
  have HR := Lib.hid b3
  have HS0 := Lib.hid b4
  have HM := Lib.hid hM
  have HT := Lib.hid hT
  have HC := Lib.hid hC
  have HRr := Lib.hid hr
  have h32 : ∀ y, y < 2 ^ (C + 1 + K) → y < 4294967296 := fun y hy => Nat.lt_of_lt_of_le hy (Nat.le_trans (Nat.pow_le_pow_right (n := 2) (by omega) (show C + 1 + K ≤ 32 by omega)) (by omega))
  have H32 := Lib.hid h32
  have h1S : 1 < S := by rw [← hS]; exact hT.1
  clear hM hT b1 b2 b3 b4 hr h32
  unfold mv
  go_enter Tryd.func56, Tryd.ntmps56
  go_wp2_with fail
  obtain ⟨W, hW⟩ : ∃ W, ((((w.alloc (.cells #[.int .i64 (C : Int), .slice o K cap] 24)).alloc (.cells #[.slice none 0 0, .map none, .slice none 0 0, .slice none 0 0] 82)).alloc (.map #[] 0)).alloc (.cells #[.slice none 0 0, .map (some (S + 1 + 1)), .slice none 0 0, .slice none 0 0] 82)) = W := ⟨_, rfl⟩
  rw [hW] at HB HA HR HS0 ⊢
  have HS := Lib.hid hS
  clear hW hmk hS
  go_loopw [34] (fun j wr => ∃ (i : Nat) (J : List Nat) (rv lv : Value) (bl ρ : Nat → Nat), i ≤ K ∧ j = .int .i64 (i : Int) ∧ Ins C i r J ρ ∧ St wr (S + 1 + 1 + 1) (S + 1 + 1) rv lv rv lv J J J bl ρ ∧ Below (S + 1 + 1) W wr) (fun j _ => K - (intOf j).toNat)
  case atStart => exact ⟨0, [], _, _, _, _, by omega, by first | trivial | rfl, Ins.nil C r _, HS0.out, Below.refl _ _⟩
  case round =>
    obtain ⟨i, J, rv, lv, bl, ρ, hi, rfl, hI, hst, hbe⟩ := hrel
    have hbW : Below S w wr := HB.out.trans (hbe.mono (by omega))
    have HI := Lib.hid hI
    have HBe := Lib.hid hbe
    by_cases hlt : i < K
    · have hi1 : (i : Int) < (K : Int) := by omega
      have hbw' : Below w.heap.size w wr := by rw [HS.out]; exact hbW
      obtain ⟨bM, oM, oc, cpc, rfl, hbM, e1, l1⟩ := HM.out.at_ hlt
      have e2 := (hbw'.cell (p := ⟨bM, oM + i, none⟩) hbM).trans e1
      have HNb := Lib.hid (newbits_ok (C + 1 + K) (by omega) wr)
      have hr0i := HR0.out i hlt
      have h032 : r0 i < 4294967296 := H32.out _ (Nat.lt_of_lt_of_le hr0i (Nat.pow_le_pow_right (n := 2) (by omega) (by omega)))
      have hFl : ∀ V, Below wr.heap.size wr V → Bx V wr.heap.size 0 → Calls Tryd.prog 47 #[.slice (some ⟨wr.heap.size, 0, none⟩) 1 1, .slice oc (el C (r0 i)).length cpc] V fun e y => e = .returned (.tuple #[]) ∧ Bx y wr.heap.size (r0 i) ∧ Kept (some wr.heap.size) V.heap.size V y := fun V hV hx => by
        have h := flipall_ok wr.heap.size 0 (by omega) (el C (r0 i)) (fun i hi => by have := (el_mem.1 hi).1; have := HC.out; omega) (by have := el_len C (r0 i); have := HC.out; omega) oc cpc V hx (l1.below (hbw'.trans (hV.mono hbw'.size))) (fun hn g off e => by have := l1.blk hn e; have := hbw'.size; omega)
        have e0 : flips 0 (el C (r0 i)) = r0 i := msk_el (HR0.out i hlt)
        rwa [e0] at h
      have hp1 : 2 ^ (C + 1 + i) < 4294967296 := Nat.lt_of_lt_of_le (Nat.pow_lt_pow_right (a := 2) (by omega) (show C + 1 + i < 32 by omega)) (by omega)
      have hx1 : r0 i ^^^ 2 ^ (C + 1 + i) < 4294967296 := xor32 h032 hp1
      have HF1 := Lib.hid (fun V (h : Bx V wr.heap.size (r0 i)) => flip_ok wr.heap.size (r0 i) (C + 1 + i) (by omega) h032 V h)
      have HF2 := Lib.hid (fun V (h : Bx V wr.heap.size (r0 i ^^^ 2 ^ (C + 1 + i))) => flip_ok wr.heap.size (r0 i ^^^ 2 ^ (C + 1 + i)) C (by omega) hx1 V h)
      have HHs := Lib.hid (fun V (h : Bx V br b) => has_ok br b i (by omega) hb32 V h)
      have hri : r i = if b.testBit i then r0 i ^^^ 2 ^ (C + 1 + i) ^^^ 2 ^ C else r0 i ^^^ 2 ^ (C + 1 + i) := by rw [HRR.out]; rfl
      have hLd : ∀ V, Bx V wr.heap.size (r i) → Kept (some wr.heap.size) wr.heap.size wr V → Calls Tryd.prog 67 #[.slice (some ⟨wr.heap.size, 0, none⟩) 1 1, .pointer (some ⟨S, 0, none⟩), .pointer (some ⟨S + 1 + 1 + 1, 0, none⟩)] V (LeadRes C i r J bl ρ (S + 1 + 1 + 1) (S + 1 + 1) wr.heap.size rv lv V) := fun V hx hV => by
        have hbV : Below wr.heap.size wr V := hV.below (fun k hk => by cases hk; exact Nat.le_refl _)
        refine lead_ok C HC.out i r (fun j hj => H32.out _ (HRr.out j (by omega))) J bl ρ HI.out S (S + 1 + 1 + 1) (S + 1 + 1) wr.heap.size (by omega) (by omega) rv lv V (hst.below hbV) hx hst.fresh ?_ (HT.out.here (hbw'.trans (hbV.mono hbw'.size)))
        exact (hbV.cell (p := ⟨S, 0, none⟩) (by show S < _; have := hst.box.lt; omega)).trans ((HA.out.below HBe.out (by omega)).cell 0)
      obtain ⟨n1, hn1⟩ : ∃ n, (el C (r0 i)).length = n := ⟨_, rfl⟩
      rw [hn1] at hFl e2
      have HFl := Lib.hid hFl
      have HLd := Lib.hid hLd
      have HRi := Lib.hid hri
      have c6 : wr.cell? ⟨S, 0, none⟩ = some (.int .i64 (C : Int)) := (HA.out.below HBe.out (by omega)).cell 0
      have HBr1 := Lib.hid (HBr.out.below hbw' HBl.out)
      have HBrl := Lib.hid (show br < wr.heap.size by have := HBl.out; have := hbw'.size; omega)
      have HSt := Lib.hid hst
      have HCc := Lib.hid (fun V (h : Kept (some wr.heap.size) wr.heap.size wr V) => (⟨(World.cell?_of_block (w := wr) (a := ⟨S, 0, none⟩) (h.block S (by have := hst.box.lt; omega) (fun e => by cases e; have := hst.box.lt; omega))).trans c6, (h.block br (by have := HBl.out; have := hbw'.size; omega) (fun e => by cases e; have := HBl.out; have := hbw'.size; omega)).trans (HBr.out.below hbw' HBl.out)⟩ : V.cell? ⟨S, 0, none⟩ = some (.int .i64 (C : Int)) ∧ Bx V br b))
      clear hbW hI hst hbe hbw' e1 l1 hFl hLd hn1 hbM hri hr0i h032 hp1 hx1
      go_wp2_with fail
      refine HNb.out.mono ?_
      rintro e W1 ⟨rfl, hx1, hb1⟩
      have HX1 := Lib.hid hx1
      have HB1 := Lib.hid hb1
      clear hx1 hb1
      go_wp2_with fail
      refine (HFl.out _ HB1.out HX1.out).mono ?_
      rintro e W2 ⟨rfl, hx2, hk2⟩
      have HX2 := Lib.hid hx2
      have HK2 := Lib.hid ((Kept.of HB1.out).trans (hk2.le HB1.out.size))
      obtain ⟨c7, _⟩ := HCc.out _ HK2.out
      clear hx2 hk2
      go_wp2_with fail
      refine (HF1.out _ HX2.out).mono ?_
      rintro e W3 ⟨rfl, hx3, hk3⟩
      have HX3 := Lib.hid hx3
      have HK3 := Lib.hid (HK2.out.trans (hk3.le HK2.out.size))
      obtain ⟨c8, hbr3⟩ := HCc.out _ HK3.out
      have HBr3 := Lib.hid hbr3
      clear hx3 hk3 hbr3
      obtain ⟨q0, hq0⟩ : ∃ q, b.testBit i = q := ⟨_, rfl⟩
      rw [hq0] at HHs HRi
      clear hq0
      cases q0 with
      | true =>
        go_wp2_with fail
        refine (HHs.out _ HBr3.out).mono ?_
        rintro e w' ⟨rfl, rfl⟩
        go_wp2_with fail
        refine (HF2.out _ HX3.out).mono ?_
        rintro e W4 ⟨rfl, hx4, hk4⟩
        have HX4 := Lib.hid (show Bx W4 wr.heap.size (r i) by rw [HRi.out, if_pos (by first | trivial | rfl)]; exact hx4)
        have HK4 := Lib.hid (HK3.out.trans (hk4.le HK3.out.size))
        clear hx4 hk4

        go_wp2_with fail
        refine (HLd.out _ HX4.out HK4.out).mono ?_
        rintro e W5 ⟨hb5, (⟨rfl, c, x, rv', lv', hst5, hI5⟩ | ⟨rfl, x, f, hst5, hbx5, hway, hno⟩)⟩
        · have HS5 := Lib.hid hst5
          have HI5 := Lib.hid hI5
          have HB5 := Lib.hid (HBe.out.trans ((HK4.out.le (B' := S + 1 + 1) (by have := HSt.out.box.lt; omega)).below (fun k hk => by cases hk; have := HSt.out.box.lt; omega) |>.trans hb5))
          clear hst5 hI5 hb5
          go_wp2_with fail
          go_roundw
          case rel => exact ⟨i + 1, _, _, _, _, _, by omega, by go_num, HI5.out, HS5.out, HB5.out⟩
          case measure => simp [intOf]; omega
        · have HB5 := Lib.hid (HBe.out.trans ((HK4.out.le (B' := S + 1 + 1) (by have := HSt.out.box.lt; omega)).below (fun k hk => by cases hk; have := HSt.out.box.lt; omega) |>.trans hb5))
          have hx32 : x < 4294967296 := hway.lt32 (fun j hj => H32.out _ (HRr.out j (by omega)))
          have HHx := Lib.hid (has_ok wr.heap.size x C (by omega) hx32 W5 hbx5)
          have c9 : W5.cell? ⟨S, 0, none⟩ = some (.int .i64 (C : Int)) := (HA.out.below HB5.out (by omega)).cell 0
          have HS5 := Lib.hid hst5
          have HBx5 := Lib.hid hbx5
          obtain ⟨q5, hq5⟩ : ∃ q, x.testBit C = q := ⟨_, rfl⟩
          rw [hq5] at HHx
          cases q5 with
          | false =>
            have HI5 := Lib.hid (Way.none HI.out hway (fun q hq => by
              by_cases g : q < C
              · exact hno q g
              · have : q = C := by omega
                rw [this]; exact hq5))
            clear hst5 hway hb5 hbx5 hno hq5 hx32
            go_wp2_with fail
            refine HHx.out.mono ?_
            rintro e w' ⟨rfl, rfl⟩
            go_wp2_with fail
            go_roundw
            case rel => exact ⟨i + 1, _, _, _, _, _, by omega, by go_num, HI5.out, HS5.out, HB5.out⟩
            case measure => simp [intOf]; omega
          | true =>
            have hsp : Sp (rows K (aug C r0 b)) x := by rw [← HRR.out]; exact rows_sub (by omega) hway.sub
            have hld : Ld x C := ⟨hq5, hno⟩
            have hrf := rf_of HR0.out hsp hld
            have hyb : x >>> (C + 1) < 2 ^ (i + 1) := Nat.lt_pow_two_of_testBit _ (fun q hq => by
              rw [Nat.testBit_shiftRight]
              exact aug_later HR0.out (show i + 1 ≤ K by omega) (by rw [← HRR.out]; exact hway.sub) hq)
            have hel : el K (x >>> (C + 1)) = el (i + 1) (x >>> (C + 1)) := el_more hyb (by omega)
            have hpos : 0 < (el K (x >>> (C + 1))).length := by
              rcases Nat.eq_zero_or_pos (el K (x >>> (C + 1))).length with h0 | h0
              · have := hrf.2
                rw [List.eq_nil_of_length_eq_zero h0] at this
                cases this
              · exact h0
            have hHas := fun k (hk : k < i + 1) V (h : Bx V wr.heap.size x) => has_ok wr.heap.size x (C + 1 + k) (by omega) hx32 V h
            have hbit : ∀ k, x.testBit (C + 1 + k) = (x >>> (C + 1)).testBit k := fun k => by rw [Nat.testBit_shiftRight]
            have HYlt := Lib.hid (Nat.lt_of_lt_of_le hyb (Nat.pow_le_pow_right (n := 2) (by omega) (show i + 1 ≤ K by omega)))
            obtain ⟨y, hy⟩ : ∃ y, x >>> (C + 1) = y := ⟨_, rfl⟩
            rw [hy] at hrf hel hpos HYlt
            simp only [hy] at hbit
            simp only [hbit] at hHas
            have HHas := Lib.hid hHas
            have HSp := Lib.hid hsp
            have HLd5 := Lib.hid hld
            have HRf := Lib.hid hrf
            have HEl := Lib.hid hel
            have HPos := Lib.hid hpos
            obtain ⟨o5, cap5, rfl⟩ := hst5.rform
            obtain ⟨ol5, cl5, rfl, _⟩ := hst5.lds.shape' (ints_len J)
            have HQ5 := Lib.hid hst5.box
            have hQl := hst5.box.lt
            have hbl5 := Box.lt hbx5
            have hQb := HSt.out.fresh.hi
            have HQl := Lib.hid hQl
            have HBl5 := Lib.hid hbl5
            have HQb := Lib.hid hQb
            clear hst5 hway hb5 hbx5 hno hq5 hx32 hsp hld hrf hyb hel hpos hHas hbit hy hQl hbl5 hQb HS5
            go_wp2_with fail
            refine HHx.out.mono ?_
            rintro e w' ⟨rfl, rfl⟩
            go_wp2_with fail
            go_loopw [76] (fun j wl => ∃ (k : Nat) (u : Value), k ≤ i + 1 ∧ j = .int .i64 (k : Int) ∧ Box wl (S + 1 + 1 + 1) #[.slice o5 J.length cap5, .map (some (S + 1 + 1)), .slice ol5 J.length cl5, u] 82 ∧ Row wl W5.heap.size u (ints (el k y)) ∧ Bx wl wr.heap.size x ∧ Below (S + 1 + 1) W wl ∧ W5.heap.size ≤ wl.heap.size) (fun j _ => i + 1 - (intOf j).toNat)
            case atStart => exact ⟨0, _, by omega, by first | trivial | rfl, HQ5.out, Row.nil _ _, HBx5.out, HB5.out, Nat.le_refl _⟩
            case round =>
              obtain ⟨k, u, hk, rfl, hbq, hru, hbx6, hbe6, hsz6⟩ := hrel
              have c10 := (HA.out.below hbe6 (by omega)).cell 0
              have q3 := hbq.cell 3
              have g3 := hbq.open_ 3
              have HBq := Lib.hid hbq
              have HRu := Lib.hid hru
              have HBx6 := Lib.hid hbx6
              have HBe6 := Lib.hid hbe6
              by_cases hlk : k < i + 1
              · have hk1 : (k : Int) < (i : Int) + 1 := by omega
                have hst := el_succ k y
                have hh := HHas.out k hlk _ hbx6
                obtain ⟨q, hq⟩ : ∃ q, y.testBit k = q := ⟨_, rfl⟩
                rw [hq] at hst hh
                have HHh := Lib.hid hh
                have HSt6 := Lib.hid hst
                obtain ⟨pm, hpm⟩ : ∃ m, (ints (el k y)).length = m := ⟨_, rfl⟩
                obtain ⟨ou, cu, rfl, _⟩ := hru.shape' hpm
                have hkl := el_len k y
                have HPm := Lib.hid (show (ints (el k y)).length ≤ 1000000 by rw [ints_len]; omega)
                have HSz := Lib.hid hsz6
                clear hst hh hq hpm hru hbq hbx6 hbe6 hkl
                cases q with
                | true =>
                  go_wp2_with fail
                  refine HHh.out.mono ?_
                  rintro e w' ⟨rfl, rfl⟩
                  go_wp2_with (at_builtin; refine app_int _ rfl _ _ rfl W5.heap.size _ _ rfl (HRu.out.alloc _) _ (k : Int) rfl (World.cell?_alloc_mark _ #[_] 3 (0, 0) 0) HPm.out (by have := HSz.out; simp; omega) ?_; intro gg cv2 w2 hr2 hbb2 hgg; have HB7 := Lib.hid (((Below.refl _ _).alloc HSz.out _).trans hbb2); have HR7 := Lib.hid (hr2.set (b := S + 1 + 1 + 1) (i := 3) HQl.out (.slice (some ⟨gg, 0, none⟩) ((ints (el k y)).length + 1) cv2)); have hbq7 := HBq.out.below HB7.out HQl.out; have q7 := hbq7.cell 3; have g7 := hbq7.open_ 3; have HQ7 := Lib.hid (hbq7.set 3 (.slice (some ⟨gg, 0, none⟩) ((ints (el k y)).length + 1) cv2)); have HX7 := Lib.hid (Box.setOther (Bx.below HBx6.out HB7.out HBl5.out) (d := S + 1 + 1 + 1) (i := 3) (by have := HQb.out; omega) (.slice (some ⟨gg, 0, none⟩) ((ints (el k y)).length + 1) cv2)); have HE7 := Lib.hid ((HBe6.out.trans (HB7.out.mono (by have := HQl.out; omega))).setCell (p := ⟨S + 1 + 1 + 1, 3, none⟩) (by show S + 1 + 1 ≤ S + 1 + 1 + 1; omega) (.slice (some ⟨gg, 0, none⟩) ((ints (el k y)).length + 1) cv2)); have HZ7 := Lib.hid (Nat.le_trans HSz.out HB7.out.size); clear hr2 hbb2 hbq7)
                  go_roundw
                  case rel => exact ⟨k + 1, _, by omega, by go_num, HQ7.out, by rw [HSt6.out, if_pos (by first | trivial | rfl), ints_snoc]; exact HR7.out, HX7.out, HE7.out, by have := HZ7.out; simpa using this⟩
                  case measure => simp [intOf]; omega
                | false =>
                  go_wp2_with fail
                  refine HHh.out.mono ?_
                  rintro e w' ⟨rfl, rfl⟩
                  go_wp2_with fail
                  go_roundw
                  case rel => exact ⟨k + 1, _, by omega, by go_num, HBq.out, by rw [HSt6.out, if_neg (by simp)]; exact HRu.out, HBx6.out, HBe6.out, HSz.out⟩
                  case measure => simp [intOf]; omega
              · have e : k = i + 1 := by omega
                subst e
                have hk1 : ¬ ((i + 1 : Nat) : Int) < (i : Int) + 1 := by omega
                rw [← HEl.out] at HRu
                obtain ⟨pm, hpm⟩ : ∃ m, (ints (el K y)).length = m := ⟨_, rfl⟩
                obtain ⟨ou, cu, rfl, _⟩ := HRu.out.shape' hpm
                have hr1 := HR.out.below hbe6 (by omega)
                have d0 := hr1.cell 0
                have d1 := hr1.cell 1
                have d2 := hr1.cell 2
                have d3 := hr1.cell 3
                have g0 := hr1.open_ 0
                have g1 := hr1.open_ 1
                have g2 := hr1.open_ 2
                have g4 := hr1.open_ 3
                have q0 := hbq.cell 0
                have q1 := hbq.cell 1
                have q2 := hbq.cell 2
                have hfb := (((hr1.set 0 (.slice o5 J.length cap5)).set 1 (.map (some (S + 1 + 1)))).set 2 (.slice ol5 J.length cl5)).set 3 (.slice ou pm cu)
                have hfw := ((((HB.out.trans (hbe6.mono (by omega))).setCell (p := ⟨S + 1, 0, none⟩) (by show S ≤ S + 1; omega) (.slice o5 J.length cap5)).setCell (p := ⟨S + 1, 1, none⟩) (by show S ≤ S + 1; omega) (.map (some (S + 1 + 1)))).setCell (p := ⟨S + 1, 2, none⟩) (by show S ≤ S + 1; omega) (.slice ol5 J.length cl5)).setCell (p := ⟨S + 1, 3, none⟩) (by show S ≤ S + 1; omega) (.slice ou pm cu)
                have hSl : S + 1 < W5.heap.size := by have := HQl.out; omega
                have hfr := ((((HRu.out.set (b := S + 1) (i := 0) hSl (.slice o5 J.length cap5)).set (b := S + 1) (i := 1) hSl (.map (some (S + 1 + 1)))).set (b := S + 1) (i := 2) hSl (.slice ol5 J.length cl5)).set (b := S + 1) (i := 3) hSl (.slice ou pm cu)).le (show S ≤ W5.heap.size by omega)
                have HFB := Lib.hid hfb
                have HFW := Lib.hid hfw
                have HFR := Lib.hid hfr
                clear hbq hru hbx6 hbe6 hr1 hfb hfw hfr hlk hSl hpm
                go_wp2_with fail
                have z0 := HFB.out.cell 0
                have z1 := HFB.out.cell 1
                have z2 := HFB.out.cell 2
                have z3 := HFB.out.cell 3
                simp at z0 z1 z2 z3
                refine bodyPost_ret (v := .agg #[.slice o5 J.length cap5, .map (some (S + 1 + 1)), .slice ol5 J.length cl5, .slice ou pm cu]) (by simp [results, Tryd.results56, go_sem, z0, z1, z2, z3]) rfl (.inr ⟨_, _, _, _, _, _, _, _, y, x, rfl, by rw [HS.out]; exact HFR.out, HPos.out, HYlt.out, HRf.out, HSp.out, HLd5.out, by rw [HS.out]; exact HFW.out⟩)
      | false =>
        have HX4 := Lib.hid (show Bx _ wr.heap.size (r i) by rw [HRi.out, if_neg (by simp)]; exact HX3.out)
        go_wp2_with fail
        refine (HHs.out _ HBr3.out).mono ?_
        rintro e w' ⟨rfl, rfl⟩

        go_wp2_with fail
        refine (HLd.out _ HX4.out HK3.out).mono ?_
        rintro e W5 ⟨hb5, (⟨rfl, c, x, rv', lv', hst5, hI5⟩ | ⟨rfl, x, f, hst5, hbx5, hway, hno⟩)⟩
        · have HS5 := Lib.hid hst5
          have HI5 := Lib.hid hI5
          have HB5 := Lib.hid (HBe.out.trans ((HK3.out.le (B' := S + 1 + 1) (by have := HSt.out.box.lt; omega)).below (fun k hk => by cases hk; have := HSt.out.box.lt; omega) |>.trans hb5))
          clear hst5 hI5 hb5
          go_wp2_with fail
          go_roundw
          case rel => exact ⟨i + 1, _, _, _, _, _, by omega, by go_num, HI5.out, HS5.out, HB5.out⟩
          case measure => simp [intOf]; omega
        · have HB5 := Lib.hid (HBe.out.trans ((HK3.out.le (B' := S + 1 + 1) (by have := HSt.out.box.lt; omega)).below (fun k hk => by cases hk; have := HSt.out.box.lt; omega) |>.trans hb5))
          have hx32 : x < 4294967296 := hway.lt32 (fun j hj => H32.out _ (HRr.out j (by omega)))
          have HHx := Lib.hid (has_ok wr.heap.size x C (by omega) hx32 W5 hbx5)
          have c9 : W5.cell? ⟨S, 0, none⟩ = some (.int .i64 (C : Int)) := (HA.out.below HB5.out (by omega)).cell 0
          have HS5 := Lib.hid hst5
          have HBx5 := Lib.hid hbx5
          obtain ⟨q5, hq5⟩ : ∃ q, x.testBit C = q := ⟨_, rfl⟩
          rw [hq5] at HHx
          cases q5 with
          | false =>
            have HI5 := Lib.hid (Way.none HI.out hway (fun q hq => by
              by_cases g : q < C
              · exact hno q g
              · have : q = C := by omega
                rw [this]; exact hq5))
            clear hst5 hway hb5 hbx5 hno hq5 hx32
            go_wp2_with fail
            refine HHx.out.mono ?_
            rintro e w' ⟨rfl, rfl⟩
            go_wp2_with fail
            go_roundw
            case rel => exact ⟨i + 1, _, _, _, _, _, by omega, by go_num, HI5.out, HS5.out, HB5.out⟩
            case measure => simp [intOf]; omega
          | true =>
            have hsp : Sp (rows K (aug C r0 b)) x := by rw [← HRR.out]; exact rows_sub (by omega) hway.sub
            have hld : Ld x C := ⟨hq5, hno⟩
            have hrf := rf_of HR0.out hsp hld
            have hyb : x >>> (C + 1) < 2 ^ (i + 1) := Nat.lt_pow_two_of_testBit _ (fun q hq => by
              rw [Nat.testBit_shiftRight]
              exact aug_later HR0.out (show i + 1 ≤ K by omega) (by rw [← HRR.out]; exact hway.sub) hq)
            have hel : el K (x >>> (C + 1)) = el (i + 1) (x >>> (C + 1)) := el_more hyb (by omega)
            have hpos : 0 < (el K (x >>> (C + 1))).length := by
              rcases Nat.eq_zero_or_pos (el K (x >>> (C + 1))).length with h0 | h0
              · have := hrf.2
                rw [List.eq_nil_of_length_eq_zero h0] at this
                cases this
              · exact h0
            have hHas := fun k (hk : k < i + 1) V (h : Bx V wr.heap.size x) => has_ok wr.heap.size x (C + 1 + k) (by omega) hx32 V h
            have hbit : ∀ k, x.testBit (C + 1 + k) = (x >>> (C + 1)).testBit k := fun k => by rw [Nat.testBit_shiftRight]
            have HYlt := Lib.hid (Nat.lt_of_lt_of_le hyb (Nat.pow_le_pow_right (n := 2) (by omega) (show i + 1 ≤ K by omega)))
            obtain ⟨y, hy⟩ : ∃ y, x >>> (C + 1) = y := ⟨_, rfl⟩
            rw [hy] at hrf hel hpos HYlt
            simp only [hy] at hbit
            simp only [hbit] at hHas
            have HHas := Lib.hid hHas
            have HSp := Lib.hid hsp
            have HLd5 := Lib.hid hld
            have HRf := Lib.hid hrf
            have HEl := Lib.hid hel
            have HPos := Lib.hid hpos
            obtain ⟨o5, cap5, rfl⟩ := hst5.rform
            obtain ⟨ol5, cl5, rfl, _⟩ := hst5.lds.shape' (ints_len J)
            have HQ5 := Lib.hid hst5.box
            have hQl := hst5.box.lt
            have hbl5 := Box.lt hbx5
            have hQb := HSt.out.fresh.hi
            have HQl := Lib.hid hQl
            have HBl5 := Lib.hid hbl5
            have HQb := Lib.hid hQb
            clear hst5 hway hb5 hbx5 hno hq5 hx32 hsp hld hrf hyb hel hpos hHas hbit hy hQl hbl5 hQb HS5
            go_wp2_with fail
            refine HHx.out.mono ?_
            rintro e w' ⟨rfl, rfl⟩
            go_wp2_with fail
            go_loopw [76] (fun j wl => ∃ (k : Nat) (u : Value), k ≤ i + 1 ∧ j = .int .i64 (k : Int) ∧ Box wl (S + 1 + 1 + 1) #[.slice o5 J.length cap5, .map (some (S + 1 + 1)), .slice ol5 J.length cl5, u] 82 ∧ Row wl W5.heap.size u (ints (el k y)) ∧ Bx wl wr.heap.size x ∧ Below (S + 1 + 1) W wl ∧ W5.heap.size ≤ wl.heap.size) (fun j _ => i + 1 - (intOf j).toNat)
            case atStart => exact ⟨0, _, by omega, by first | trivial | rfl, HQ5.out, Row.nil _ _, HBx5.out, HB5.out, Nat.le_refl _⟩
            case round =>
              obtain ⟨k, u, hk, rfl, hbq, hru, hbx6, hbe6, hsz6⟩ := hrel
              have c10 := (HA.out.below hbe6 (by omega)).cell 0
              have q3 := hbq.cell 3
              have g3 := hbq.open_ 3
              have HBq := Lib.hid hbq
              have HRu := Lib.hid hru
              have HBx6 := Lib.hid hbx6
              have HBe6 := Lib.hid hbe6
              by_cases hlk : k < i + 1
              · have hk1 : (k : Int) < (i : Int) + 1 := by omega
                have hst := el_succ k y
                have hh := HHas.out k hlk _ hbx6
                obtain ⟨q, hq⟩ : ∃ q, y.testBit k = q := ⟨_, rfl⟩
                rw [hq] at hst hh
                have HHh := Lib.hid hh
                have HSt6 := Lib.hid hst
                obtain ⟨pm, hpm⟩ : ∃ m, (ints (el k y)).length = m := ⟨_, rfl⟩
                obtain ⟨ou, cu, rfl, _⟩ := hru.shape' hpm
                have hkl := el_len k y
                have HPm := Lib.hid (show (ints (el k y)).length ≤ 1000000 by rw [ints_len]; omega)
                have HSz := Lib.hid hsz6
                clear hst hh hq hpm hru hbq hbx6 hbe6 hkl
                cases q with
                | true =>
                  go_wp2_with fail
                  refine HHh.out.mono ?_
                  rintro e w' ⟨rfl, rfl⟩
                  go_wp2_with (at_builtin; refine app_int _ rfl _ _ rfl W5.heap.size _ _ rfl (HRu.out.alloc _) _ (k : Int) rfl (World.cell?_alloc_mark _ #[_] 3 (0, 0) 0) HPm.out (by have := HSz.out; simp; omega) ?_; intro gg cv2 w2 hr2 hbb2 hgg; have HB7 := Lib.hid (((Below.refl _ _).alloc HSz.out _).trans hbb2); have HR7 := Lib.hid (hr2.set (b := S + 1 + 1 + 1) (i := 3) HQl.out (.slice (some ⟨gg, 0, none⟩) ((ints (el k y)).length + 1) cv2)); have hbq7 := HBq.out.below HB7.out HQl.out; have q7 := hbq7.cell 3; have g7 := hbq7.open_ 3; have HQ7 := Lib.hid (hbq7.set 3 (.slice (some ⟨gg, 0, none⟩) ((ints (el k y)).length + 1) cv2)); have HX7 := Lib.hid (Box.setOther (Bx.below HBx6.out HB7.out HBl5.out) (d := S + 1 + 1 + 1) (i := 3) (by have := HQb.out; omega) (.slice (some ⟨gg, 0, none⟩) ((ints (el k y)).length + 1) cv2)); have HE7 := Lib.hid ((HBe6.out.trans (HB7.out.mono (by have := HQl.out; omega))).setCell (p := ⟨S + 1 + 1 + 1, 3, none⟩) (by show S + 1 + 1 ≤ S + 1 + 1 + 1; omega) (.slice (some ⟨gg, 0, none⟩) ((ints (el k y)).length + 1) cv2)); have HZ7 := Lib.hid (Nat.le_trans HSz.out HB7.out.size); clear hr2 hbb2 hbq7)
                  go_roundw
                  case rel => exact ⟨k + 1, _, by omega, by go_num, HQ7.out, by rw [HSt6.out, if_pos (by first | trivial | rfl), ints_snoc]; exact HR7.out, HX7.out, HE7.out, by have := HZ7.out; simpa using this⟩
                  case measure => simp [intOf]; omega
                | false =>
                  go_wp2_with fail
                  refine HHh.out.mono ?_
                  rintro e w' ⟨rfl, rfl⟩
                  go_wp2_with fail
                  go_roundw
                  case rel => exact ⟨k + 1, _, by omega, by go_num, HBq.out, by rw [HSt6.out, if_neg (by simp)]; exact HRu.out, HBx6.out, HBe6.out, HSz.out⟩
                  case measure => simp [intOf]; omega
              · have e : k = i + 1 := by omega
                subst e
                have hk1 : ¬ ((i + 1 : Nat) : Int) < (i : Int) + 1 := by omega
                rw [← HEl.out] at HRu
                obtain ⟨pm, hpm⟩ : ∃ m, (ints (el K y)).length = m := ⟨_, rfl⟩
                obtain ⟨ou, cu, rfl, _⟩ := HRu.out.shape' hpm
                have hr1 := HR.out.below hbe6 (by omega)
                have d0 := hr1.cell 0
                have d1 := hr1.cell 1
                have d2 := hr1.cell 2
                have d3 := hr1.cell 3
                have g0 := hr1.open_ 0
                have g1 := hr1.open_ 1
                have g2 := hr1.open_ 2
                have g4 := hr1.open_ 3
                have q0 := hbq.cell 0
                have q1 := hbq.cell 1
                have q2 := hbq.cell 2
                have hfb := (((hr1.set 0 (.slice o5 J.length cap5)).set 1 (.map (some (S + 1 + 1)))).set 2 (.slice ol5 J.length cl5)).set 3 (.slice ou pm cu)
                have hfw := ((((HB.out.trans (hbe6.mono (by omega))).setCell (p := ⟨S + 1, 0, none⟩) (by show S ≤ S + 1; omega) (.slice o5 J.length cap5)).setCell (p := ⟨S + 1, 1, none⟩) (by show S ≤ S + 1; omega) (.map (some (S + 1 + 1)))).setCell (p := ⟨S + 1, 2, none⟩) (by show S ≤ S + 1; omega) (.slice ol5 J.length cl5)).setCell (p := ⟨S + 1, 3, none⟩) (by show S ≤ S + 1; omega) (.slice ou pm cu)
                have hSl : S + 1 < W5.heap.size := by have := HQl.out; omega
                have hfr := ((((HRu.out.set (b := S + 1) (i := 0) hSl (.slice o5 J.length cap5)).set (b := S + 1) (i := 1) hSl (.map (some (S + 1 + 1)))).set (b := S + 1) (i := 2) hSl (.slice ol5 J.length cl5)).set (b := S + 1) (i := 3) hSl (.slice ou pm cu)).le (show S ≤ W5.heap.size by omega)
                have HFB := Lib.hid hfb
                have HFW := Lib.hid hfw
                have HFR := Lib.hid hfr
                clear hbq hru hbx6 hbe6 hr1 hfb hfw hfr hlk hSl hpm
                go_wp2_with fail
                have z0 := HFB.out.cell 0
                have z1 := HFB.out.cell 1
                have z2 := HFB.out.cell 2
                have z3 := HFB.out.cell 3
                simp at z0 z1 z2 z3
                refine bodyPost_ret (v := .agg #[.slice o5 J.length cap5, .map (some (S + 1 + 1)), .slice ol5 J.length cl5, .slice ou pm cu]) (by simp [results, Tryd.results56, go_sem, z0, z1, z2, z3]) rfl (.inr ⟨_, _, _, _, _, _, _, _, y, x, rfl, by rw [HS.out]; exact HFR.out, HPos.out, HYlt.out, HRf.out, HSp.out, HLd5.out, by rw [HS.out]; exact HFW.out⟩)
    · have e : K = i := by omega
      subst e
      obtain ⟨o1, cap1, rfl⟩ := hst.rform
      obtain ⟨ol, cl, rfl, _⟩ := hst.lds.shape' (ints_len J)
      obtain ⟨L, hL1, hL2, hL3⟩ := srt_ints hI.nd
      have hJl := hI.len
      have HLl := Lib.hid (show L.length = J.length from hL2.length_eq)
      have HMem := Lib.hid (show ∀ c, c ∈ L ↔ c ∈ J from fun c => hL2.mem_iff)
      have HSo := Lib.hid (hSort (ints J) (S + 1 + 1 + 1 + 1) (.slice ol J.length cl) wr (by rw [ints_len]; omega) hst.box.lt hst.lds)
      have HSt := Lib.hid hst
      have HBk := Lib.hid (Bk.start (hI.perm hL2.symm) hL3)
      have HLe := Lib.hid hL1
      have HPe := Lib.hid hL2
      have q2 := hst.box.cell 2
      have HC2 := Lib.hid hJl
      clear hlt hbW hI hst hbe hL1 hL2 hL3 hJl HI
      go_wp2_with fail
      refine HSo.out.mono ?_
      rintro e W4 ⟨rfl, hg4, hr4⟩
      have HS4 := Lib.hid (HSt.out.sort hg4 (by rw [← HLe.out]; exact hr4))
      have HB4 := Lib.hid (HBe.out.grown hg4 (Nat.le_of_lt HSt.out.piv.lt) (fun k hk => by have := (own_lt HSt.out.lds hk).1; omega))
      have q2 := HS4.out.box.cell 2
      clear hg4 hr4 HSt HBe
      go_wp2_with fail
      go_loopw [101] (fun j wr => ∃ (k : Nat) (ρ : Nat → Nat), k ≤ L.length ∧ j = .int .i64 (k : Int) ∧ Bk C K r L ρ k ∧ St wr (S + 1 + 1 + 1) (S + 1 + 1) (.slice o1 J.length cap1) (.slice ol J.length cl) (.slice o1 J.length cap1) (.slice ol J.length cl) J J L bl ρ ∧ Below (S + 1 + 1) W wr) (fun j _ => L.length - (intOf j).toNat)
      case atStart => exact ⟨0, ρ, by omega, by first | trivial | rfl, HBk.out, HS4.out, HB4.out⟩
      case round =>
        clear HBk HS4 HB4
        obtain ⟨k, ρ, hk, rfl, hbk, hst, hbe⟩ := hrel
        have hll := HLl.out
        have hjl32 := HC2.out
        have HBe := Lib.hid hbe
        have HSt := Lib.hid hst
        have HBk := Lib.hid hbk
        have q0 := hst.box.cell 0
        have q1 := hst.box.cell 1
        have q2 := hst.box.cell 2
        by_cases hlt : k < L.length
        · have hk1 : (k : Int) < (J.length : Int) := by omega
          have hbw := hbk.enter hlt
          obtain ⟨jj, hjj⟩ : ∃ jj, L.length - 1 - k = jj := ⟨_, rfl⟩
          have ejj : wrap64 (wrap64 ((J.length : Int) - 1) - (k : Int)) = (jj : Int) := by unfold wrap64; omega
          have ejj2 : (J.length : Int) - 1 - (k : Int) = (jj : Int) := by omega
          have ejj3 : wrap64 ((J.length : Int) - 1 - (k : Int)) = (jj : Int) := by unfold wrap64; omega
          have hjl : jj < L.length := by omega
          have hj1 : (jj : Int) < (J.length : Int) := by omega
          obtain ⟨gl, cgl, hlv, hcl⟩ := hst.lead_at hjl
          obtain rfl := (Value.slice.inj hlv).1
          clear hlv
          rw [hjj] at hbw
          obtain ⟨c, hc⟩ : ∃ c, L.getD jj 0 = c := ⟨_, rfl⟩
          rw [hc] at hbw hcl
          have HJc := Lib.hid hc
          have HJJ := Lib.hid hjj
          have hcL := hbw.mem
          have hcJ := (HMem.out c).1 hcL
          have hcC := hbw.ins.lt c hcL
          have hlk := hst.piv.look (c := c) (by omega)
          obtain ⟨gr, cgr, hrv, hrc⟩ := hst.at_ hcJ
          obtain rfl := (Value.slice.inj hrv).1
          clear hrv
          have hpx := pix_lt hcJ
          obtain ⟨px, hpxe⟩ : ∃ x, pix J c = x := ⟨_, rfl⟩
          rw [hpxe] at hlk hrc hpx
          have hp1 : (px : Int) < (J.length : Int) := by omega
          have HBw := Lib.hid hbw
          have hr32 : ∀ (ρ : Nat → Nat), Ins C K r L ρ → ∀ d, d ∈ L → ρ d < 4294967296 := fun ρ h d hd => h.lt32 (fun j hj => H32.out _ (HRr.out j hj)) hd
          have HR32 := Lib.hid hr32
          have HF := Lib.hid (fun x (hx : x < 4294967296) f (hf : f ≤ 32) V (h : Bx V (bl c) x) (hT : Tb V) => first_any (bl c) x f hx hf V h hT)
          have hTV : ∀ V, Below (S + 1 + 1) W V → Tb V := fun V hV => HT.out.here (by rw [HS.out]; exact HB.out.trans (hV.mono (by omega)))
          have HTV := Lib.hid hTV
          have HcC := Lib.hid hcC
          have HcL := Lib.hid hcL
          have HcJ := Lib.hid hcJ
          have HB1 := Lib.hid (hst.bts c hcJ)
          clear hbk hst hbe hbw hpxe hjj hc hr32 hTV hcL
          go_wp2_with fail
          refine (HF.out (ρ c) (HR32.out ρ HBw.out.ins c HcL.out) (c + 1) (by have := HC.out; omega) _ HB1.out (HTV.out _ HBe.out)).mono ?_
          rintro e w3 ⟨⟨v3, rfl, hv3⟩, rfl⟩
          have HV3 := Lib.hid hv3
          clear hv3
          go_wp2_with fail
          go_loopw [15] (fun j wr => ∃ (f : Nat) (ρ : Nat → Nat), f ≤ C ∧ Bw C K r L ρ c f ∧ Fst (ρ c) f j ∧ St wr (S + 1 + 1 + 1) (S + 1 + 1) (.slice (some ⟨gr, 0, none⟩) J.length cap1) (.slice (some ⟨gl, 0, none⟩) J.length cl) (.slice (some ⟨gr, 0, none⟩) J.length cap1) (.slice (some ⟨gl, 0, none⟩) J.length cl) J J L bl ρ ∧ Below (S + 1 + 1) W wr) (fun j _ => if intOf j < 0 then 0 else 64 - (intOf j).toNat)
          case atStart => exact ⟨c + 1, ρ, by have := HcC.out; omega, HBw.out, HV3.out, HSt.out, HBe.out⟩
          case round =>
            clear HBw HV3 HSt HBe HB1 q0 q1 q2 hrc hcl hlk
            obtain ⟨f, ρ, hf, hbw, hfs, hst, hbe⟩ := hrel
            have hx := HR32.out ρ hbw.ins c HcL.out
            have c0 : wr.cell? ⟨S, 0, none⟩ = some (.int .i64 (C : Int)) := (HA.out.below hbe (by omega)).cell 0
            have hbx := hst.bts c HcJ.out
            have HBw := Lib.hid hbw
            have HSt := Lib.hid hst
            have HBe := Lib.hid hbe
            have HBx := Lib.hid hbx
            have q0 := hst.box.cell 0
            have q1 := hst.box.cell 1
            have hdec : ∀ (v3 : Value) (p x : Nat), Fst x (p + 1) v3 → p < 32 → (if intOf v3 < 0 then 0 else 64 - (intOf v3).toNat) < 64 - p := fun v3 p x hv3 hp32 => by
              rcases hv3 with ⟨p', h1, _, _, rfl⟩ | ⟨_, rfl⟩
              · have e : intOf (Value.int .i64 (p' : Int)) = (p' : Int) := rfl
                rw [e, if_neg (by omega)]
                omega
              · have e : intOf (Value.int .i64 (-1)) = -1 := rfl
                rw [e, if_pos (by omega)]
                omega
            have HDc := Lib.hid hdec
            clear hdec
            rcases hfs with ⟨p, hfp, hp, hlow, rfl⟩ | ⟨hno, rfl⟩
            · have hp0 : (0 : Int) ≤ (p : Int) := by omega
              by_cases hpC : p < C
              · have hpC1 : (p : Int) < (C : Int) := by omega
                have hlk := hst.piv.look_ok (c := p) (by omega)
                by_cases hmem : p ∈ J
                · have hd : decide (p ∈ J) = true := decide_eq_true hmem
                  have hpL := (HMem.out p).2 hmem
                  obtain ⟨gr2, cgr2, hrv, hcell⟩ := hst.at_ hmem
                  have hre := (Value.slice.inj hrv).1
                  have hre2 : gr = gr2 := by have := Option.some.inj hre; injection this
                  clear hre
                  subst hre2
                  have hpx := pix_lt hmem
                  have hgap : c < p := by have := hbw.gap; omega
                  have hne : bl p ≠ bl c := fun e => by have := hst.sep p c hmem HcJ.out e; omega
                  have HAd := Lib.hid (add_ok (bl c) (ρ c) (bl p) (ρ p) hx (HR32.out ρ hbw.ins p hpL) hne wr hbx (hst.bts p hmem))
                  have HWn := Lib.hid (hbw.add hfp hp hlow hpL)
                  have HSr := Lib.hid (fun V (hk : Kept (some (bl c)) wr.heap.size wr V) (hy : Bx V (bl c) (ρ c ^^^ ρ p)) => hst.setRow HcJ.out hk hy)
                  have HKr := Lib.hid (fun V (hk : Kept (some (bl c)) wr.heap.size wr V) => hbe.trans ((hk.le (B' := S + 1 + 1) (Nat.le_of_lt hst.piv.lt)).below (fun j hj => by cases hj; have := hst.hi c HcJ.out; omega)))
                  rw [hd] at hlk
                  obtain ⟨k2, hk2⟩ : ∃ k, pix J p = k := ⟨_, rfl⟩
                  rw [hk2] at hlk hcell hpx
                  have hk3 : (k2 : Int) < (J.length : Int) := by omega
                  have hy := Nat.xor_lt_two_pow (n := 32) hx (HR32.out ρ hbw.ins p hpL)
                  have HY := Lib.hid hy
                  clear hbw hst hbe hbx hx hd hk2 hlow hp hy hpL hne hmem hrv
                  go_wp2_with fail
                  refine HAd.out.mono ?_
                  rintro e w1 ⟨rfl, hb1, hk1⟩
                  have HBx1 := Lib.hid hb1
                  have HS1 := Lib.hid (HSr.out _ hk1 hb1)
                  have HBe1 := Lib.hid (HKr.out _ hk1)
                  clear hb1 hk1
                  go_wp2_with fail
                  refine (HF.out (ρ c ^^^ ρ p) HY.out (p + 1) (by omega) _ HBx1.out (HTV.out _ HBe1.out)).mono ?_
                  rintro e w3 ⟨⟨v3, rfl, hv3⟩, rfl⟩
                  have HV3 := Lib.hid hv3
                  have HDec := Lib.hid (HDc.out v3 p _ hv3 (by omega))
                  clear hv3
                  go_wp2_with fail
                  go_roundw
                  case rel => exact ⟨p + 1, _, by omega, HWn.out, by rw [upd_at]; exact HV3.out, HS1.out, HBe1.out⟩
                  case measure =>
                    have e : intOf (Value.int .i64 (p : Int)) = (p : Int) := rfl
                    have := HDec.out
                    simp only [e]
                    rw [if_neg (show ¬ (p : Int) < 0 by omega)]
                    simpa using this
                · have hd : decide (p ∈ J) = false := decide_eq_false hmem
                  rw [hd] at hlk
                  have hpx : pix J p = 0 := by unfold pix; rw [if_neg hmem]
                  rw [hpx] at hlk
                  have HWn := Lib.hid (hbw.skip hfp hlow (fun h => hmem ((HMem.out p).1 h)))
                  have HX := Lib.hid hx
                  clear hbw hst hbe hbx hx hd hlow hp hmem
                  go_wp2_with fail
                  refine (HF.out (ρ c) HX.out (p + 1) (by omega) _ HBx.out (HTV.out _ HBe.out)).mono ?_
                  rintro e w3 ⟨⟨v3, rfl, hv3⟩, rfl⟩
                  have HV3 := Lib.hid hv3
                  have HDec := Lib.hid (HDc.out v3 p _ hv3 (by omega))
                  clear hv3
                  go_wp2_with fail
                  go_roundw
                  case rel => exact ⟨p + 1, _, by omega, HWn.out, HV3.out, HSt.out, HBe.out⟩
                  case measure =>
                    have e : intOf (Value.int .i64 (p : Int)) = (p : Int) := rfl
                    have := HDec.out
                    simp only [e]
                    rw [if_neg (show ¬ (p : Int) < 0 by omega)]
                    simpa using this
              · have hpC1 : ¬ (p : Int) < (C : Int) := by omega
                have HBk2 := Lib.hid (Bk.leave (k := k) hlt (by rw [HJJ.out, HJc.out]; exact hbw) (by rw [HJJ.out, HJc.out]; exact fun q h1 h2 => hlow q h1 (by omega)))
                clear hbw hst hbe hbx hx hlow hp
                go_wp2_with fail
                go_roundw
                case rel => first | exact ⟨k + 1, ρ, by omega, by go_num, HBk2.out, HSt.out, HBe.out⟩ | exact ⟨_, _, _, _, ⟨k + 1, by omega, by go_num, ρ, HBk2.out, HSt.out, HBe.out⟩, rfl, rfl, rfl, rfl⟩ | exact ⟨_, _, _, _, ⟨k + 1, ρ, by omega, by go_num, HBk2.out, HSt.out, HBe.out⟩, rfl, rfl, rfl, rfl⟩ | exact ⟨_, _, _, _, _, ⟨k + 1, by omega, by go_num, ρ, HBk2.out, HSt.out, HBe.out⟩, rfl, rfl, rfl, rfl, rfl⟩ | exact ⟨_, _, _, _, _, ⟨k + 1, ρ, by omega, by go_num, HBk2.out, HSt.out, HBe.out⟩, rfl, rfl, rfl, rfl, rfl⟩ | exact ⟨_, _, _, _, _, _, ⟨k + 1, by omega, by go_num, ρ, HBk2.out, HSt.out, HBe.out⟩, rfl, rfl, rfl, rfl, rfl, rfl⟩ | exact ⟨_, _, _, _, _, _, ⟨k + 1, ρ, by omega, by go_num, HBk2.out, HSt.out, HBe.out⟩, rfl, rfl, rfl, rfl, rfl, rfl⟩ | exact ⟨_, _, _, _, _, _, _, ⟨k + 1, by omega, by go_num, ρ, HBk2.out, HSt.out, HBe.out⟩, rfl, rfl, rfl, rfl, rfl, rfl, rfl⟩ | exact ⟨_, _, _, _, _, _, _, ⟨k + 1, ρ, by omega, by go_num, HBk2.out, HSt.out, HBe.out⟩, rfl, rfl, rfl, rfl, rfl, rfl, rfl⟩ | exact ⟨_, _, _, _, _, _, _, _, ⟨k + 1, by omega, by go_num, ρ, HBk2.out, HSt.out, HBe.out⟩, rfl, rfl, rfl, rfl, rfl, rfl, rfl, rfl⟩ | exact ⟨_, _, _, _, _, _, _, _, ⟨k + 1, ρ, by omega, by go_num, HBk2.out, HSt.out, HBe.out⟩, rfl, rfl, rfl, rfl, rfl, rfl, rfl, rfl⟩ | exact ⟨_, _, _, _, _, _, _, _, _, ⟨k + 1, by omega, by go_num, ρ, HBk2.out, HSt.out, HBe.out⟩, rfl, rfl, rfl, rfl, rfl, rfl, rfl, rfl, rfl⟩ | exact ⟨_, _, _, _, _, _, _, _, _, ⟨k + 1, ρ, by omega, by go_num, HBk2.out, HSt.out, HBe.out⟩, rfl, rfl, rfl, rfl, rfl, rfl, rfl, rfl, rfl⟩ | exact ⟨_, _, _, _, _, _, _, _, _, _, ⟨k + 1, by omega, by go_num, ρ, HBk2.out, HSt.out, HBe.out⟩, rfl, rfl, rfl, rfl, rfl, rfl, rfl, rfl, rfl, rfl⟩ | exact ⟨_, _, _, _, _, _, _, _, _, _, ⟨k + 1, ρ, by omega, by go_num, HBk2.out, HSt.out, HBe.out⟩, rfl, rfl, rfl, rfl, rfl, rfl, rfl, rfl, rfl, rfl⟩ | exact ⟨_, _, _, _, _, _, _, _, _, _, _, ⟨k + 1, by omega, by go_num, ρ, HBk2.out, HSt.out, HBe.out⟩, rfl, rfl, rfl, rfl, rfl, rfl, rfl, rfl, rfl, rfl, rfl⟩ | exact ⟨_, _, _, _, _, _, _, _, _, _, _, ⟨k + 1, ρ, by omega, by go_num, HBk2.out, HSt.out, HBe.out⟩, rfl, rfl, rfl, rfl, rfl, rfl, rfl, rfl, rfl, rfl, rfl⟩
                case measure => simp [intOf]; omega
            · have HBk2 := Lib.hid (Bk.leave (k := k) hlt (by rw [HJJ.out, HJc.out]; exact hbw) (by rw [HJJ.out, HJc.out]; exact fun q h1 h2 => hno q h1))
              clear hbw hst hbe hbx hx hno
              go_wp2_with fail
              go_roundw
              case rel => first | exact ⟨k + 1, ρ, by omega, by go_num, HBk2.out, HSt.out, HBe.out⟩ | exact ⟨_, _, _, _, ⟨k + 1, by omega, by go_num, ρ, HBk2.out, HSt.out, HBe.out⟩, rfl, rfl, rfl, rfl⟩ | exact ⟨_, _, _, _, ⟨k + 1, ρ, by omega, by go_num, HBk2.out, HSt.out, HBe.out⟩, rfl, rfl, rfl, rfl⟩ | exact ⟨_, _, _, _, _, ⟨k + 1, by omega, by go_num, ρ, HBk2.out, HSt.out, HBe.out⟩, rfl, rfl, rfl, rfl, rfl⟩ | exact ⟨_, _, _, _, _, ⟨k + 1, ρ, by omega, by go_num, HBk2.out, HSt.out, HBe.out⟩, rfl, rfl, rfl, rfl, rfl⟩ | exact ⟨_, _, _, _, _, _, ⟨k + 1, by omega, by go_num, ρ, HBk2.out, HSt.out, HBe.out⟩, rfl, rfl, rfl, rfl, rfl, rfl⟩ | exact ⟨_, _, _, _, _, _, ⟨k + 1, ρ, by omega, by go_num, HBk2.out, HSt.out, HBe.out⟩, rfl, rfl, rfl, rfl, rfl, rfl⟩ | exact ⟨_, _, _, _, _, _, _, ⟨k + 1, by omega, by go_num, ρ, HBk2.out, HSt.out, HBe.out⟩, rfl, rfl, rfl, rfl, rfl, rfl, rfl⟩ | exact ⟨_, _, _, _, _, _, _, ⟨k + 1, ρ, by omega, by go_num, HBk2.out, HSt.out, HBe.out⟩, rfl, rfl, rfl, rfl, rfl, rfl, rfl⟩ | exact ⟨_, _, _, _, _, _, _, _, ⟨k + 1, by omega, by go_num, ρ, HBk2.out, HSt.out, HBe.out⟩, rfl, rfl, rfl, rfl, rfl, rfl, rfl, rfl⟩ | exact ⟨_, _, _, _, _, _, _, _, ⟨k + 1, ρ, by omega, by go_num, HBk2.out, HSt.out, HBe.out⟩, rfl, rfl, rfl, rfl, rfl, rfl, rfl, rfl⟩ | exact ⟨_, _, _, _, _, _, _, _, _, ⟨k + 1, by omega, by go_num, ρ, HBk2.out, HSt.out, HBe.out⟩, rfl, rfl, rfl, rfl, rfl, rfl, rfl, rfl, rfl⟩ | exact ⟨_, _, _, _, _, _, _, _, _, ⟨k + 1, ρ, by omega, by go_num, HBk2.out, HSt.out, HBe.out⟩, rfl, rfl, rfl, rfl, rfl, rfl, rfl, rfl, rfl⟩ | exact ⟨_, _, _, _, _, _, _, _, _, _, ⟨k + 1, by omega, by go_num, ρ, HBk2.out, HSt.out, HBe.out⟩, rfl, rfl, rfl, rfl, rfl, rfl, rfl, rfl, rfl, rfl⟩ | exact ⟨_, _, _, _, _, _, _, _, _, _, ⟨k + 1, ρ, by omega, by go_num, HBk2.out, HSt.out, HBe.out⟩, rfl, rfl, rfl, rfl, rfl, rfl, rfl, rfl, rfl, rfl⟩ | exact ⟨_, _, _, _, _, _, _, _, _, _, _, ⟨k + 1, by omega, by go_num, ρ, HBk2.out, HSt.out, HBe.out⟩, rfl, rfl, rfl, rfl, rfl, rfl, rfl, rfl, rfl, rfl, rfl⟩ | exact ⟨_, _, _, _, _, _, _, _, _, _, _, ⟨k + 1, ρ, by omega, by go_num, HBk2.out, HSt.out, HBe.out⟩, rfl, rfl, rfl, rfl, rfl, rfl, rfl, rfl, rfl, rfl, rfl⟩
              case measure => simp [intOf]; omega
        · have e : L.length = k := by omega
          subst e
          have hr1 := HR.out.below hbe (by omega)
          have d0 := hr1.cell 0
          have d1 := hr1.cell 1
          have d2 := hr1.cell 2
          have d3 := hr1.cell 3
          have g0 := hr1.open_ 0
          have g1 := hr1.open_ 1
          have g2 := hr1.open_ 2
          have g3 := hr1.open_ 3
          have q3 := hst.box.cell 3
          have hfb := (((hr1.set 0 (.slice o1 J.length cap1)).set 1 (.map (some (S + 1 + 1)))).set 2 (.slice ol J.length cl)).set 3 (.slice none 0 0)
          have hfw := ((((HB.out.trans (hbe.mono (by omega))).setCell (p := ⟨S + 1, 0, none⟩) (by show S ≤ S + 1; omega) (.slice o1 J.length cap1)).setCell (p := ⟨S + 1, 1, none⟩) (by show S ≤ S + 1; omega) (.map (some (S + 1 + 1)))).setCell (p := ⟨S + 1, 2, none⟩) (by show S ≤ S + 1; omega) (.slice ol J.length cl)).setCell (p := ⟨S + 1, 3, none⟩) (by show S ≤ S + 1; omega) (.slice none 0 0)
          have HSf := Lib.hid (hst.high (W := (((wr.setCell ⟨S + 1, 0, none⟩ (.slice o1 J.length cap1)).setCell ⟨S + 1, 1, none⟩ (.map (some (S + 1 + 1)))).setCell ⟨S + 1, 2, none⟩ (.slice ol J.length cl)).setCell ⟨S + 1, 3, none⟩ (.slice none 0 0)) (fun j h1 h2 => low_set4 _ _ _ _ _ _ j (by omega)))
          have HFB := Lib.hid hfb
          have HFW := Lib.hid hfw
          clear hbk hst hbe hr1 hfb hfw hlt
          go_wp2_with fail
          have z0 := HFB.out.cell 0
          have z1 := HFB.out.cell 1
          have z2 := HFB.out.cell 2
          have z3 := HFB.out.cell 3
          simp at z0 z1 z2 z3
          refine bodyPost_ret (v := .agg #[.slice o1 J.length cap1, .map (some (S + 1 + 1)), .slice ol J.length cl, .slice none 0 0]) (by simp [results, Tryd.results56, go_sem, z0, z1, z2, z3]) rfl (.inl ⟨J, L, bl, ρ, _, _, _, _, rfl, HSf.out, HPe.out, by rw [← HRR.out]; exact HBk.out, by rw [HS.out]; exact HFW.out⟩)


end Go.Proofs.YtbefkngeffpokaaDoor
