/- reduce without a right side. -/
import Derived.Test.YtbefkngeffpokaaDoorMxJ
import Derived.Test.YtbefkngeffpokaaDoorMyE
import Derived.WalkKit
import Derived.WalkSpells
import Derived.WalkLawsBesides
import Derived.Handy
import Derived.Deep.QuietTactic
import Derived.BigQuiet
import Derived.Outline
import Derived.Laws.BitsAllLaws
import Derived.IntWalk
import Derived.Lib.SmallJoins
import Derived.Lib.Hide
import Derived.Deep.DeepCutAuto
import Derived.LoopTactic
import Derived.Deep.RegionWith
import Derived.Laws.CopyOwn
import Derived.Maps.OwnOps
import Derived.Maps.OwnSet
import Derived.Laws.OwnMore
import Derived.Maps.AppendAt
import Derived.RangeFuncNested
import Derived.RangeFuncBound
import Derived.RangeFuncCalls
import Derived.RangeFuncLeaves
import Derived.RangeFuncBox
import Derived.RangeFuncFrom
import Derived.Shelf.Abstract
import Derived.Shelf.RegionOpen
import Derived.OwnWalkIn
import Derived.TacticsInMore
import Derived.LoopNIn
import Derived.LoopIn
import Derived.Deep.RegionHeld3
import Derived.RegionTactic
import Derived.ChangeAlike
namespace Go.Proofs.YtbefkngeffpokaaDoor
set_option linter.unusedVariables false
set_option linter.unusedSimpArgs false
open Go.RowKit


theorem run_map0 (W : World) : (Instr.makeMap 80 none).run Tryd.prog W = .ok (.map (some W.heap.size)) (W.alloc (.map #[] 0)) := run_makeMap (P := Tryd.prog) 80 W
theorem red_start (C : Int) (o : Option Addr) (K cap : Nat) (w : World) (bl ρ : Nat → Nat) : Below w.heap.size w ((((w.alloc (.cells #[.int .i64 (C : Int), .slice o K cap] 24)).alloc (.cells #[.slice none 0 0, .map none, .slice none 0 0, .slice none 0 0] 82)).alloc (.map #[] 0)).alloc (.cells #[.slice none 0 0, .map (some (w.heap.size + 1 + 1)), .slice none 0 0, .slice none 0 0] 82)) ∧ Box ((((w.alloc (.cells #[.int .i64 (C : Int), .slice o K cap] 24)).alloc (.cells #[.slice none 0 0, .map none, .slice none 0 0, .slice none 0 0] 82)).alloc (.map #[] 0)).alloc (.cells #[.slice none 0 0, .map (some (w.heap.size + 1 + 1)), .slice none 0 0, .slice none 0 0] 82)) w.heap.size #[.int .i64 (C : Int), .slice o K cap] 24 ∧ Box ((((w.alloc (.cells #[.int .i64 (C : Int), .slice o K cap] 24)).alloc (.cells #[.slice none 0 0, .map none, .slice none 0 0, .slice none 0 0] 82)).alloc (.map #[] 0)).alloc (.cells #[.slice none 0 0, .map (some (w.heap.size + 1 + 1)), .slice none 0 0, .slice none 0 0] 82)) (w.heap.size + 1) #[.slice none 0 0, .map none, .slice none 0 0, .slice none 0 0] 82 ∧ St ((((w.alloc (.cells #[.int .i64 (C : Int), .slice o K cap] 24)).alloc (.cells #[.slice none 0 0, .map none, .slice none 0 0, .slice none 0 0] 82)).alloc (.map #[] 0)).alloc (.cells #[.slice none 0 0, .map (some (w.heap.size + 1 + 1)), .slice none 0 0, .slice none 0 0] 82)) (w.heap.size + 1 + 1 + 1) (w.heap.size + 1 + 1) (.slice none 0 0) (.slice none 0 0) (.slice none 0 0) (.slice none 0 0) [] [] [] bl ρ := by
  refine ⟨((((Below.refl _ _).alloc (Nat.le_refl _) _).alloc (by simp) _).alloc (by simp; omega) _).alloc (by simp; omega) _, (((Box.new w _ _).alloc _).alloc _).alloc _, ?_, ?_⟩
  · have h := ((Box.new (w.alloc (.cells #[.int .i64 (C : Int), .slice o K cap] 24)) #[.slice none 0 0, .map none, .slice none 0 0, .slice none 0 0] 82).alloc (.map #[] 0)).alloc (.cells #[.slice none 0 0, .map (some (w.heap.size + 1 + 1)), .slice none 0 0, .slice none 0 0] 82)
    rwa [World.size_alloc] at h
  · have h := Box.new (((w.alloc (.cells #[.int .i64 (C : Int), .slice o K cap] 24)).alloc (.cells #[.slice none 0 0, .map none, .slice none 0 0, .slice none 0 0] 82)).alloc (.map #[] 0)) #[.slice none 0 0, .map (some (w.heap.size + 1 + 1)), .slice none 0 0, .slice none 0 0] 82
    rw [World.size_alloc, World.size_alloc, World.size_alloc] at h
    have h2 := Piv.made ((w.alloc (.cells #[.int .i64 (C : Int), .slice o K cap] 24)).alloc (.cells #[.slice none 0 0, .map none, .slice none 0 0, .slice none 0 0] 82))
    rw [World.size_alloc, World.size_alloc] at h2
    have h3 : (((w.alloc (.cells #[.int .i64 (C : Int), .slice o K cap] 24)).alloc (.cells #[.slice none 0 0, .map none, .slice none 0 0, .slice none 0 0] 82)).alloc (.map #[] 0)).heap.size = w.heap.size + 1 + 1 + 1 := by simp
    exact ⟨h, World.ownsRow_nil _ _ _ _, Row.nil _ _, h2.block ((Below.refl _ _).alloc (Nat.le_refl _) _ |>.block _ (by rw [h3]; omega)), fun c hc => absurd hc (by simp), fun c hc => absurd hc (by simp), fun c d hc => absurd hc (by simp), fun c hc => absurd hc (by simp), fun c hc => absurd hc (by simp), .inl rfl, by omega⟩
theorem St.fresh {V : World} {Q M : Nat} {r0 l0 rv lv : Value} {I J L : List Nat} {bl ρ : Nat → Nat} (h : St V Q M r0 l0 rv lv I J L bl ρ) : Fr Q rv lv J bl V.heap.size :=
  ⟨h.box.lt, fun e => by have := (own_lt h.rws e).2; omega, fun e => by have := (own_lt h.lds e).2; omega, fun c hc e => by have := Box.lt (h.bts c hc); omega⟩
/-- Sorted. -/
def srt (l : List Int) : List Int := l.mergeSort fun x y => decide (x ≤ y)
/-- What slices.Sort does. -/
def SortP : Prop := ∀ (l : List Int) (B : Nat) (v : Value) (W : World), l.length ≤ 1000000 → B ≤ W.heap.size → Row W B v l → Calls Tryd.prog 69 #[v] W fun e w' => e = .returned (.tuple #[]) ∧ W.grownBy w' v.ownBlock ∧ Row w' B v (srt l)
theorem srt_ints {J : List Nat} (hn : J.Nodup) : ∃ L, srt (ints J) = ints L ∧ L.Perm J ∧ L.Pairwise (· < ·) := by
  refine ⟨J.mergeSort fun x y => decide (x ≤ y), ?_, List.mergeSort_perm _ _, ?_⟩
  · unfold srt ints
    rw [List.map_mergeSort (r := fun x y => decide (x ≤ y)) (s := fun x y : Int => decide (x ≤ y))]
    intro a _ b _
    exact decide_eq_decide.2 (by omega)
  · have h1 := List.pairwise_mergeSort (le := fun x y : Nat => decide (x ≤ y)) (fun a b c h1 h2 => by simp at h1 h2 ⊢; omega) (fun a b => by simp; omega) J
    have h2 : (J.mergeSort fun x y => decide (x ≤ y)).Nodup := (List.mergeSort_perm J _).nodup_iff.2 hn
    rw [List.nodup_iff_pairwise_ne] at h2
    exact h1.imp₂ (fun a b h3 h4 => by simp at h3; omega) h2
section
variable {V W : World} {Q M : Nat} {r0 l0 rv lv : Value} {I J L L' : List Nat} {bl ρ : Nat → Nat}
theorem St.sort (h : St V Q M r0 l0 rv lv I J L bl ρ) (hg : V.grownBy W lv.ownBlock) (hr : Row W (Q + 1) lv (ints L')) : St W Q M r0 l0 rv lv I J L' bl ρ := by
  have hm := h.mq
  have hQr : lv.ownBlock ≠ some Q := fun e => by have := (own_lt h.lds e).1; omega
  have hMr : lv.ownBlock ≠ some M := fun e => by have := (own_lt h.lds e).1; omega
  refine ⟨(hg.block Q h.box.lt (Ne.symm hQr)).trans h.box, own_kept h.rws fun j hj hlt => hg.block j hlt (fun e => ?_), hr, h.piv.block (hg.block M h.piv.lt (Ne.symm hMr)), fun d hd => (hg.block (bl d) (Box.lt (h.bts d hd)) (Ne.symm (h.al d hd))).trans (h.bts d hd), h.hi, h.sep, h.ar, h.al, h.arl, h.mq⟩
  rcases h.arl with e1 | e1
  · rw [e1] at hj; cases hj
  · exact e1 (hj.trans e)
/-- Only blocks ahead of the state have changed. -/
theorem St.high (h : St V Q M r0 l0 rv lv I J L bl ρ) (hk : ∀ j, M ≤ j → j < V.heap.size → W.heap[j]? = V.heap[j]?) : St W Q M r0 l0 rv lv I J L bl ρ := by
  have hm := h.mq
  exact ⟨(hk Q (by omega) h.box.lt).trans h.box, own_kept h.rws fun j hj hl => hk j (by have := (own_lt h.rws hj).1; omega) hl, own_kept h.lds fun j hj hl => hk j (by have := (own_lt h.lds hj).1; omega) hl, h.piv.block (hk M (Nat.le_refl _) h.piv.lt), fun c hc => (hk (bl c) (by have := h.hi c hc; omega) (Box.lt (h.bts c hc))).trans (h.bts c hc), h.hi, h.sep, h.ar, h.al, h.arl, h.mq⟩
theorem St.lead_at (h : St V Q M r0 l0 rv lv I J L bl ρ) {j : Nat} (hj : j < L.length) : ∃ g cap, lv = .slice (some ⟨g, 0, none⟩) L.length cap ∧ V.cell? ⟨g, j, none⟩ = some (.int .i64 ((L.getD j 0 : Nat) : Int)) := by
  rcases h.lds.cases with ⟨_, h0⟩ | ⟨g, cap, e, _, _, hc⟩
  · have h1 := congrArg List.length h0
    rw [ints_len] at h1
    have h2 : L.length = 0 := h1
    omega
  · rw [ints_len] at e
    refine ⟨g, cap, e, ?_⟩
    rw [hc j (by rw [ints_len]; exact hj)]
    congr 2
    have := ints_at L j
    unfold lz at this
    rw [List.getD_eq_getElem?_getD, List.getElem?_eq_getElem (by rw [ints_len]; exact hj)] at this
    exact this
end
/-- What reduce gives back. -/
def RedRes (C K : Nat) (a : Nat → Nat) (w : World) (e : Ending) (w' : World) : Prop := ∃ (J L : List Nat) (bl ρ : Nat → Nat) (rv lv : Value) (Q M : Nat), e = .returned (.agg #[rv, .map (some M), lv, .slice none 0 0]) ∧ St w' Q M rv lv rv lv J J L bl ρ ∧ L.Perm J ∧ Bk C K a L ρ L.length ∧ Below w.heap.size w w'
theorem low_set4 (W : World) (b : Nat) (v0 v1 v2 v3 : Value) (j : Nat) (hj : j ≠ b) : ((((W.setCell ⟨b, 0, none⟩ v0).setCell ⟨b, 1, none⟩ v1).setCell ⟨b, 2, none⟩ v2).setCell ⟨b, 3, none⟩ v3).heap[j]? = W.heap[j]? :=
  (((Below.heap_setCell _ _ _ j hj).trans (Below.heap_setCell _ _ _ j hj)).trans (Below.heap_setCell _ _ _ j hj)).trans (Below.heap_setCell _ _ _ j hj)
set_option maxRecDepth 100000 in
set_option maxHeartbeats 8000000 in
theorem reduce_ok (C K : Nat) (hC : C ≤ 31) (hK : K ≤ 31) (r : Nat → Nat) (hr : ∀ i, i < K → r i < 2 ^ C) (o : Option Addr) (cap : Nat) (w : World) (hM : Mx w o K C r) (hT : Tb w) (hSort : SortP) :
    Calls Tryd.prog 56 #[mv (C : Int) o K cap, .slice none 0 0] w (RedRes C K r w) := by
  have hmk := run_map0
  obtain ⟨b1, b2, b3, b4⟩ := red_start (C : Int) o K cap w (fun _ => 0) (fun _ => 0)
  obtain ⟨S, hS⟩ : ∃ S, w.heap.size = S := ⟨_, rfl⟩
  rw [hS] at b1 b2 b3 b4
  have HB := Lib.hid b1
  have HA := Lib.hid b2
  have HR := Lib.hid b3
  have HS0 := Lib.hid b4
  have HM := Lib.hid hM
  have HT := Lib.hid hT
  have HC := Lib.hid hC
  have HRr := Lib.hid hr
  have h32 : ∀ y, y < 2 ^ C → y < 4294967296 := fun y hy => Nat.lt_of_lt_of_le hy (Nat.le_trans (Nat.pow_le_pow_right (n := 2) (by omega) (show C ≤ 32 by omega)) (by omega))
  have H32 := Lib.hid h32
  have h1S : 1 < S := by rw [← hS]; exact hT.1
  clear hM hT b1 b2 b3 b4 hr h32
  unfold mv
  go_enter Tryd.func56, Tryd.ntmps56
  go_wp2_with fail
  obtain ⟨W, hW⟩ : ∃ W, ((((w.alloc (.cells #[.int .i64 (C : Int), .slice o K cap] 24)).alloc (.cells #[.slice none 0 0, .map none, .slice none 0 0, .slice none 0 0] 82)).alloc (.map #[] 0)).alloc (.cells #[.slice none 0 0, .map (some (S + 1 + 1)), .slice none 0 0, .slice none 0 0] 82)) = W := ⟨_, rfl⟩
  rw [hW] at HB HA HR HS0 ⊢
  have HS := Lib.hid hS
  clear hW hmk hS
  go_loopw [34] (fun j wr => ∃ (i : Nat) (J : List Nat) (rv lv : Value) (bl ρ : Nat → Nat), i ≤ K ∧ j = .int .i64 (i : Int) ∧ Ins C i r J ρ ∧ St wr (S + 1 + 1 + 1) (S + 1 + 1) rv lv rv lv J J J bl ρ ∧ Below (S + 1 + 1) W wr) (fun j _ => K - (intOf j).toNat)
  case atStart => exact ⟨0, [], _, _, _, _, by omega, by first | trivial | rfl, Ins.nil C r _, HS0.out, Below.refl _ _⟩
  case round =>
    obtain ⟨i, J, rv, lv, bl, ρ, hi, rfl, hI, hst, hbe⟩ := hrel
    have hbW : Below S w wr := HB.out.trans (hbe.mono (by omega))
    have HI := Lib.hid hI
    have HBe := Lib.hid hbe
    by_cases hlt : i < K
    · have hi1 : (i : Int) < (K : Int) := by omega
      have hbw' : Below w.heap.size w wr := by rw [HS.out]; exact hbW
      obtain ⟨bM, oM, oc, cpc, rfl, hbM, e1, l1⟩ := HM.out.at_ hlt
      have e2 := (hbw'.cell (p := ⟨bM, oM + i, none⟩) hbM).trans e1
      have HNb := Lib.hid (newbits_ok C (by omega) wr)
      have hFl : ∀ V, Below wr.heap.size wr V → Bx V wr.heap.size 0 → Calls Tryd.prog 47 #[.slice (some ⟨wr.heap.size, 0, none⟩) 1 1, .slice oc (el C (r i)).length cpc] V fun e y => e = .returned (.tuple #[]) ∧ Bx y wr.heap.size (r i) ∧ Kept (some wr.heap.size) V.heap.size V y := fun V hV hx => by
        have h := flipall_ok wr.heap.size 0 (by omega) (el C (r i)) (fun i hi => by have := (el_mem.1 hi).1; have := HC.out; omega) (by have := el_len C (r i); have := HC.out; omega) oc cpc V hx (l1.below (hbw'.trans (hV.mono hbw'.size))) (fun hn g off e => by have := l1.blk hn e; have := hbw'.size; omega)
        have e0 : flips 0 (el C (r i)) = r i := msk_el (HRr.out i hlt)
        rwa [e0] at h
      have hLd : ∀ V, Bx V wr.heap.size (r i) → Kept (some wr.heap.size) wr.heap.size wr V → Calls Tryd.prog 67 #[.slice (some ⟨wr.heap.size, 0, none⟩) 1 1, .pointer (some ⟨S, 0, none⟩), .pointer (some ⟨S + 1 + 1 + 1, 0, none⟩)] V (LeadRes C i r J bl ρ (S + 1 + 1 + 1) (S + 1 + 1) wr.heap.size rv lv V) := fun V hx hV => by
        have hbV : Below wr.heap.size wr V := hV.below (fun k hk => by cases hk; exact Nat.le_refl _)
        refine lead_ok C HC.out i r (fun j hj => H32.out _ (HRr.out j (by omega))) J bl ρ HI.out S (S + 1 + 1 + 1) (S + 1 + 1) wr.heap.size (by omega) (by omega) rv lv V (hst.below hbV) hx hst.fresh ?_ (HT.out.here (hbw'.trans (hbV.mono hbw'.size)))
        exact (hbV.cell (p := ⟨S, 0, none⟩) (by show S < _; have := hst.box.lt; omega)).trans ((HA.out.below HBe.out (by omega)).cell 0)
      obtain ⟨n1, hn1⟩ : ∃ n, (el C (r i)).length = n := ⟨_, rfl⟩
      rw [hn1] at hFl e2
      have HFl := Lib.hid hFl
      have HLd := Lib.hid hLd
      have c6 : wr.cell? ⟨S, 0, none⟩ = some (.int .i64 (C : Int)) := (HA.out.below HBe.out (by omega)).cell 0
      have HSt := Lib.hid hst
      clear hbW hI hst hbe hbw' e1 l1 hFl hLd hn1 hbM
      go_wp2_with fail
      refine HNb.out.mono ?_
      rintro e W1 ⟨rfl, hx1, hb1⟩
      have HX1 := Lib.hid hx1
      have HB1 := Lib.hid hb1
      clear hx1 hb1
      go_wp2_with fail
      refine (HFl.out _ HB1.out HX1.out).mono ?_
      rintro e W2 ⟨rfl, hx2, hk2⟩
      have HX2 := Lib.hid hx2
      have HK2 := Lib.hid ((Kept.of HB1.out).trans (hk2.le HB1.out.size))
      clear hx2 hk2
      go_wp2_with fail
      refine (HLd.out _ HX2.out HK2.out).mono ?_
      rintro e W3 ⟨hb3, (⟨rfl, c, x, rv', lv', hst3, hI3⟩ | ⟨rfl, x, f, hst3, hbx3, hway, hno⟩)⟩
      · have HS3 := Lib.hid hst3
        have HI3 := Lib.hid hI3
        have HB3 := Lib.hid (HBe.out.trans ((HK2.out.le (B' := S + 1 + 1) (by have := HSt.out.box.lt; omega)).below (fun k hk => by cases hk; have := HSt.out.box.lt; omega) |>.trans hb3))
        clear hst3 hI3 hb3
        go_wp2_with fail
        go_roundw
        case rel => exact ⟨i + 1, _, _, _, _, _, by omega, by go_num, HI3.out, HS3.out, HB3.out⟩
        case measure => simp [intOf]; omega
      · have hx0 : ∀ q, q < C + 1 → x.testBit q = false := fun q hq => by
          by_cases g : q < C
          · exact hno q g
          · refine big_bit (C := C) (sp_lt (fun y hy => ?_) hway.sub) (by omega)
            obtain ⟨j, hj, rfl⟩ := rows_mem.1 hy
            exact HRr.out j (by omega)
        have HS3 := Lib.hid hst3
        have HI3 := Lib.hid (Way.none HI.out hway hx0)
        have HB3 := Lib.hid (HBe.out.trans ((HK2.out.le (B' := S + 1 + 1) (by have := HSt.out.box.lt; omega)).below (fun k hk => by cases hk; have := HSt.out.box.lt; omega) |>.trans hb3))
        clear hst3 hway hb3 hbx3 hno hx0
        go_wp2_with fail
        go_roundw
        case rel => exact ⟨i + 1, _, _, _, _, _, by omega, by go_num, HI3.out, HS3.out, HB3.out⟩
        case measure => simp [intOf]; omega
    · have e : K = i := by omega
      subst e
      obtain ⟨o1, cap1, rfl⟩ := hst.rform
      obtain ⟨ol, cl, rfl, _⟩ := hst.lds.shape' (ints_len J)
      obtain ⟨L, hL1, hL2, hL3⟩ := srt_ints hI.nd
      have hJl := hI.len
      have HLl := Lib.hid (show L.length = J.length from hL2.length_eq)
      have HMem := Lib.hid (show ∀ c, c ∈ L ↔ c ∈ J from fun c => hL2.mem_iff)
      have HSo := Lib.hid (hSort (ints J) (S + 1 + 1 + 1 + 1) (.slice ol J.length cl) wr (by rw [ints_len]; omega) hst.box.lt hst.lds)
      have HSt := Lib.hid hst
      have HBk := Lib.hid (Bk.start (hI.perm hL2.symm) hL3)
      have HLe := Lib.hid hL1
      have HPe := Lib.hid hL2
      have q2 := hst.box.cell 2
      have HC2 := Lib.hid hJl
      clear hlt hbW hI hst hbe hL1 hL2 hL3 hJl HI
      go_wp2_with fail
      refine HSo.out.mono ?_
      rintro e W4 ⟨rfl, hg4, hr4⟩
      have HS4 := Lib.hid (HSt.out.sort hg4 (by rw [← HLe.out]; exact hr4))
      have HB4 := Lib.hid (HBe.out.grown hg4 (Nat.le_of_lt HSt.out.piv.lt) (fun k hk => by have := (own_lt HSt.out.lds hk).1; omega))
      have q2 := HS4.out.box.cell 2
      clear hg4 hr4 HSt HBe
      go_wp2_with fail
      go_loopw [101] (fun j wr => ∃ (k : Nat) (ρ : Nat → Nat), k ≤ L.length ∧ j = .int .i64 (k : Int) ∧ Bk C K r L ρ k ∧ St wr (S + 1 + 1 + 1) (S + 1 + 1) (.slice o1 J.length cap1) (.slice ol J.length cl) (.slice o1 J.length cap1) (.slice ol J.length cl) J J L bl ρ ∧ Below (S + 1 + 1) W wr) (fun j _ => L.length - (intOf j).toNat)
      case atStart => exact ⟨0, ρ, by omega, by first | trivial | rfl, HBk.out, HS4.out, HB4.out⟩
      case round =>
        clear HBk HS4 HB4
        obtain ⟨k, ρ, hk, rfl, hbk, hst, hbe⟩ := hrel
        have hll := HLl.out
        have hjl32 := HC2.out
        have HBe := Lib.hid hbe
        have HSt := Lib.hid hst
        have HBk := Lib.hid hbk
        have q0 := hst.box.cell 0
        have q1 := hst.box.cell 1
        have q2 := hst.box.cell 2
        by_cases hlt : k < L.length
        · have hk1 : (k : Int) < (J.length : Int) := by omega
          have hbw := hbk.enter hlt
          obtain ⟨jj, hjj⟩ : ∃ jj, L.length - 1 - k = jj := ⟨_, rfl⟩
          have ejj : wrap64 (wrap64 ((J.length : Int) - 1) - (k : Int)) = (jj : Int) := by unfold wrap64; omega
          have ejj2 : (J.length : Int) - 1 - (k : Int) = (jj : Int) := by omega
          have ejj3 : wrap64 ((J.length : Int) - 1 - (k : Int)) = (jj : Int) := by unfold wrap64; omega
          have hjl : jj < L.length := by omega
          have hj1 : (jj : Int) < (J.length : Int) := by omega
          obtain ⟨gl, cgl, hlv, hcl⟩ := hst.lead_at hjl
          obtain rfl := (Value.slice.inj hlv).1
          clear hlv
          rw [hjj] at hbw
          obtain ⟨c, hc⟩ : ∃ c, L.getD jj 0 = c := ⟨_, rfl⟩
          rw [hc] at hbw hcl
          have HJc := Lib.hid hc
          have HJJ := Lib.hid hjj
          have hcL := hbw.mem
          have hcJ := (HMem.out c).1 hcL
          have hcC := hbw.ins.lt c hcL
          have hlk := hst.piv.look (c := c) (by omega)
          obtain ⟨gr, cgr, hrv, hrc⟩ := hst.at_ hcJ
          obtain rfl := (Value.slice.inj hrv).1
          clear hrv
          have hpx := pix_lt hcJ
          obtain ⟨px, hpxe⟩ : ∃ x, pix J c = x := ⟨_, rfl⟩
          rw [hpxe] at hlk hrc hpx
          have hp1 : (px : Int) < (J.length : Int) := by omega
          have HBw := Lib.hid hbw
          have hr32 : ∀ (ρ : Nat → Nat), Ins C K r L ρ → ∀ d, d ∈ L → ρ d < 4294967296 := fun ρ h d hd => h.lt32 (fun j hj => H32.out _ (HRr.out j hj)) hd
          have HR32 := Lib.hid hr32
          have HF := Lib.hid (fun x (hx : x < 4294967296) f (hf : f ≤ 32) V (h : Bx V (bl c) x) (hT : Tb V) => first_any (bl c) x f hx hf V h hT)
          have hTV : ∀ V, Below (S + 1 + 1) W V → Tb V := fun V hV => HT.out.here (by rw [HS.out]; exact HB.out.trans (hV.mono (by omega)))
          have HTV := Lib.hid hTV
          have HcC := Lib.hid hcC
          have HcL := Lib.hid hcL
          have HcJ := Lib.hid hcJ
          have HB1 := Lib.hid (hst.bts c hcJ)
          clear hbk hst hbe hbw hpxe hjj hc hr32 hTV hcL
          go_wp2_with fail
          refine (HF.out (ρ c) (HR32.out ρ HBw.out.ins c HcL.out) (c + 1) (by have := HC.out; omega) _ HB1.out (HTV.out _ HBe.out)).mono ?_
          rintro e w3 ⟨⟨v3, rfl, hv3⟩, rfl⟩
          have HV3 := Lib.hid hv3
          clear hv3
          go_wp2_with fail
          go_loopw [15] (fun j wr => ∃ (f : Nat) (ρ : Nat → Nat), f ≤ C ∧ Bw C K r L ρ c f ∧ Fst (ρ c) f j ∧ St wr (S + 1 + 1 + 1) (S + 1 + 1) (.slice (some ⟨gr, 0, none⟩) J.length cap1) (.slice (some ⟨gl, 0, none⟩) J.length cl) (.slice (some ⟨gr, 0, none⟩) J.length cap1) (.slice (some ⟨gl, 0, none⟩) J.length cl) J J L bl ρ ∧ Below (S + 1 + 1) W wr) (fun j _ => if intOf j < 0 then 0 else 64 - (intOf j).toNat)
          case atStart => exact ⟨c + 1, ρ, by have := HcC.out; omega, HBw.out, HV3.out, HSt.out, HBe.out⟩
          case round =>
            clear HBw HV3 HSt HBe HB1 q0 q1 q2 hrc hcl hlk
            obtain ⟨f, ρ, hf, hbw, hfs, hst, hbe⟩ := hrel
            have hx := HR32.out ρ hbw.ins c HcL.out
            have c0 : wr.cell? ⟨S, 0, none⟩ = some (.int .i64 (C : Int)) := (HA.out.below hbe (by omega)).cell 0
            have hbx := hst.bts c HcJ.out
            have HBw := Lib.hid hbw
            have HSt := Lib.hid hst
            have HBe := Lib.hid hbe
            have HBx := Lib.hid hbx
            have q0 := hst.box.cell 0
            have q1 := hst.box.cell 1
            have hdec : ∀ (v3 : Value) (p x : Nat), Fst x (p + 1) v3 → p < 32 → (if intOf v3 < 0 then 0 else 64 - (intOf v3).toNat) < 64 - p := fun v3 p x hv3 hp32 => by
              rcases hv3 with ⟨p', h1, _, _, rfl⟩ | ⟨_, rfl⟩
              · have e : intOf (Value.int .i64 (p' : Int)) = (p' : Int) := rfl
                rw [e, if_neg (by omega)]
                omega
              · have e : intOf (Value.int .i64 (-1)) = -1 := rfl
                rw [e, if_pos (by omega)]
                omega
            have HDc := Lib.hid hdec
            clear hdec
            rcases hfs with ⟨p, hfp, hp, hlow, rfl⟩ | ⟨hno, rfl⟩
            · have hp0 : (0 : Int) ≤ (p : Int) := by omega
              by_cases hpC : p < C
              · have hpC1 : (p : Int) < (C : Int) := by omega
                have hlk := hst.piv.look_ok (c := p) (by omega)
                by_cases hmem : p ∈ J
                · have hd : decide (p ∈ J) = true := decide_eq_true hmem
                  have hpL := (HMem.out p).2 hmem
                  obtain ⟨gr2, cgr2, hrv, hcell⟩ := hst.at_ hmem
                  have hre := (Value.slice.inj hrv).1
                  have hre2 : gr = gr2 := by have := Option.some.inj hre; injection this
                  clear hre
                  subst hre2
                  have hpx := pix_lt hmem
                  have hgap : c < p := by have := hbw.gap; omega
                  have hne : bl p ≠ bl c := fun e => by have := hst.sep p c hmem HcJ.out e; omega
                  have HAd := Lib.hid (add_ok (bl c) (ρ c) (bl p) (ρ p) hx (HR32.out ρ hbw.ins p hpL) hne wr hbx (hst.bts p hmem))
                  have HWn := Lib.hid (hbw.add hfp hp hlow hpL)
                  have HSr := Lib.hid (fun V (hk : Kept (some (bl c)) wr.heap.size wr V) (hy : Bx V (bl c) (ρ c ^^^ ρ p)) => hst.setRow HcJ.out hk hy)
                  have HKr := Lib.hid (fun V (hk : Kept (some (bl c)) wr.heap.size wr V) => hbe.trans ((hk.le (B' := S + 1 + 1) (Nat.le_of_lt hst.piv.lt)).below (fun j hj => by cases hj; have := hst.hi c HcJ.out; omega)))
                  rw [hd] at hlk
                  obtain ⟨k2, hk2⟩ : ∃ k, pix J p = k := ⟨_, rfl⟩
                  rw [hk2] at hlk hcell hpx
                  have hk3 : (k2 : Int) < (J.length : Int) := by omega
                  have hy := Nat.xor_lt_two_pow (n := 32) hx (HR32.out ρ hbw.ins p hpL)
                  have HY := Lib.hid hy
                  clear hbw hst hbe hbx hx hd hk2 hlow hp hy hpL hne hmem hrv
                  go_wp2_with fail
                  refine HAd.out.mono ?_
                  rintro e w1 ⟨rfl, hb1, hk1⟩
                  have HBx1 := Lib.hid hb1
                  have HS1 := Lib.hid (HSr.out _ hk1 hb1)
                  have HBe1 := Lib.hid (HKr.out _ hk1)
                  clear hb1 hk1
                  go_wp2_with fail
                  refine (HF.out (ρ c ^^^ ρ p) HY.out (p + 1) (by omega) _ HBx1.out (HTV.out _ HBe1.out)).mono ?_
                  rintro e w3 ⟨⟨v3, rfl, hv3⟩, rfl⟩
                  have HV3 := Lib.hid hv3
                  have HDec := Lib.hid (HDc.out v3 p _ hv3 (by omega))
                  clear hv3
                  go_wp2_with fail
                  go_roundw
                  case rel => exact ⟨p + 1, _, by omega, HWn.out, by rw [upd_at]; exact HV3.out, HS1.out, HBe1.out⟩
                  case measure =>
                    have e : intOf (Value.int .i64 (p : Int)) = (p : Int) := rfl
                    have := HDec.out
                    simp only [e]
                    rw [if_neg (show ¬ (p : Int) < 0 by omega)]
                    simpa using this
                · have hd : decide (p ∈ J) = false := decide_eq_false hmem
                  rw [hd] at hlk
                  have hpx : pix J p = 0 := by unfold pix; rw [if_neg hmem]
                  rw [hpx] at hlk
                  have HWn := Lib.hid (hbw.skip hfp hlow (fun h => hmem ((HMem.out p).1 h)))
                  have HX := Lib.hid hx
                  clear hbw hst hbe hbx hx hd hlow hp hmem
                  go_wp2_with fail
                  refine (HF.out (ρ c) HX.out (p + 1) (by omega) _ HBx.out (HTV.out _ HBe.out)).mono ?_
                  rintro e w3 ⟨⟨v3, rfl, hv3⟩, rfl⟩
                  have HV3 := Lib.hid hv3
                  have HDec := Lib.hid (HDc.out v3 p _ hv3 (by omega))
                  clear hv3
                  go_wp2_with fail
                  go_roundw
                  case rel => exact ⟨p + 1, _, by omega, HWn.out, HV3.out, HSt.out, HBe.out⟩
                  case measure =>
                    have e : intOf (Value.int .i64 (p : Int)) = (p : Int) := rfl
                    have := HDec.out
                    simp only [e]
                    rw [if_neg (show ¬ (p : Int) < 0 by omega)]
                    simpa using this
              · have hpC1 : ¬ (p : Int) < (C : Int) := by omega
                have HBk2 := Lib.hid (Bk.leave (k := k) hlt (by rw [HJJ.out, HJc.out]; exact hbw) (by rw [HJJ.out, HJc.out]; exact fun q h1 h2 => hlow q h1 (by omega)))
                clear hbw hst hbe hbx hx hlow hp
                go_wp2_with fail
                go_roundw
                case rel => first | exact ⟨k + 1, ρ, by omega, by go_num, HBk2.out, HSt.out, HBe.out⟩ | exact ⟨_, _, _, _, ⟨k + 1, by omega, by go_num, ρ, HBk2.out, HSt.out, HBe.out⟩, rfl, rfl, rfl, rfl⟩ | exact ⟨_, _, _, _, ⟨k + 1, ρ, by omega, by go_num, HBk2.out, HSt.out, HBe.out⟩, rfl, rfl, rfl, rfl⟩ | exact ⟨_, _, _, _, _, ⟨k + 1, by omega, by go_num, ρ, HBk2.out, HSt.out, HBe.out⟩, rfl, rfl, rfl, rfl, rfl⟩ | exact ⟨_, _, _, _, _, ⟨k + 1, ρ, by omega, by go_num, HBk2.out, HSt.out, HBe.out⟩, rfl, rfl, rfl, rfl, rfl⟩ | exact ⟨_, _, _, _, _, _, ⟨k + 1, by omega, by go_num, ρ, HBk2.out, HSt.out, HBe.out⟩, rfl, rfl, rfl, rfl, rfl, rfl⟩ | exact ⟨_, _, _, _, _, _, ⟨k + 1, ρ, by omega, by go_num, HBk2.out, HSt.out, HBe.out⟩, rfl, rfl, rfl, rfl, rfl, rfl⟩ | exact ⟨_, _, _, _, _, _, _, ⟨k + 1, by omega, by go_num, ρ, HBk2.out, HSt.out, HBe.out⟩, rfl, rfl, rfl, rfl, rfl, rfl, rfl⟩ | exact ⟨_, _, _, _, _, _, _, ⟨k + 1, ρ, by omega, by go_num, HBk2.out, HSt.out, HBe.out⟩, rfl, rfl, rfl, rfl, rfl, rfl, rfl⟩ | exact ⟨_, _, _, _, _, _, _, _, ⟨k + 1, by omega, by go_num, ρ, HBk2.out, HSt.out, HBe.out⟩, rfl, rfl, rfl, rfl, rfl, rfl, rfl, rfl⟩ | exact ⟨_, _, _, _, _, _, _, _, ⟨k + 1, ρ, by omega, by go_num, HBk2.out, HSt.out, HBe.out⟩, rfl, rfl, rfl, rfl, rfl, rfl, rfl, rfl⟩ | exact ⟨_, _, _, _, _, _, _, _, _, ⟨k + 1, by omega, by go_num, ρ, HBk2.out, HSt.out, HBe.out⟩, rfl, rfl, rfl, rfl, rfl, rfl, rfl, rfl, rfl⟩ | exact ⟨_, _, _, _, _, _, _, _, _, ⟨k + 1, ρ, by omega, by go_num, HBk2.out, HSt.out, HBe.out⟩, rfl, rfl, rfl, rfl, rfl, rfl, rfl, rfl, rfl⟩ | exact ⟨_, _, _, _, _, _, _, _, _, _, ⟨k + 1, by omega, by go_num, ρ, HBk2.out, HSt.out, HBe.out⟩, rfl, rfl, rfl, rfl, rfl, rfl, rfl, rfl, rfl, rfl⟩ | exact ⟨_, _, _, _, _, _, _, _, _, _, ⟨k + 1, ρ, by omega, by go_num, HBk2.out, HSt.out, HBe.out⟩, rfl, rfl, rfl, rfl, rfl, rfl, rfl, rfl, rfl, rfl⟩ | exact ⟨_, _, _, _, _, _, _, _, _, _, _, ⟨k + 1, by omega, by go_num, ρ, HBk2.out, HSt.out, HBe.out⟩, rfl, rfl, rfl, rfl, rfl, rfl, rfl, rfl, rfl, rfl, rfl⟩ | exact ⟨_, _, _, _, _, _, _, _, _, _, _, ⟨k + 1, ρ, by omega, by go_num, HBk2.out, HSt.out, HBe.out⟩, rfl, rfl, rfl, rfl, rfl, rfl, rfl, rfl, rfl, rfl, rfl⟩
                case measure => simp [intOf]; omega
            · have HBk2 := Lib.hid (Bk.leave (k := k) hlt (by rw [HJJ.out, HJc.out]; exact hbw) (by rw [HJJ.out, HJc.out]; exact fun q h1 h2 => hno q h1))
              clear hbw hst hbe hbx hx hno
              go_wp2_with fail
              go_roundw
              case rel => first | exact ⟨k + 1, ρ, by omega, by go_num, HBk2.out, HSt.out, HBe.out⟩ | exact ⟨_, _, _, _, ⟨k + 1, by omega, by go_num, ρ, HBk2.out, HSt.out, HBe.out⟩, rfl, rfl, rfl, rfl⟩ | exact ⟨_, _, _, _, ⟨k + 1, ρ, by omega, by go_num, HBk2.out, HSt.out, HBe.out⟩, rfl, rfl, rfl, rfl⟩ | exact ⟨_, _, _, _, _, ⟨k + 1, by omega, by go_num, ρ, HBk2.out, HSt.out, HBe.out⟩, rfl, rfl, rfl, rfl, rfl⟩ | exact ⟨_, _, _, _, _, ⟨k + 1, ρ, by omega, by go_num, HBk2.out, HSt.out, HBe.out⟩, rfl, rfl, rfl, rfl, rfl⟩ | exact ⟨_, _, _, _, _, _, ⟨k + 1, by omega, by go_num, ρ, HBk2.out, HSt.out, HBe.out⟩, rfl, rfl, rfl, rfl, rfl, rfl⟩ | exact ⟨_, _, _, _, _, _, ⟨k + 1, ρ, by omega, by go_num, HBk2.out, HSt.out, HBe.out⟩, rfl, rfl, rfl, rfl, rfl, rfl⟩ | exact ⟨_, _, _, _, _, _, _, ⟨k + 1, by omega, by go_num, ρ, HBk2.out, HSt.out, HBe.out⟩, rfl, rfl, rfl, rfl, rfl, rfl, rfl⟩ | exact ⟨_, _, _, _, _, _, _, ⟨k + 1, ρ, by omega, by go_num, HBk2.out, HSt.out, HBe.out⟩, rfl, rfl, rfl, rfl, rfl, rfl, rfl⟩ | exact ⟨_, _, _, _, _, _, _, _, ⟨k + 1, by omega, by go_num, ρ, HBk2.out, HSt.out, HBe.out⟩, rfl, rfl, rfl, rfl, rfl, rfl, rfl, rfl⟩ | exact ⟨_, _, _, _, _, _, _, _, ⟨k + 1, ρ, by omega, by go_num, HBk2.out, HSt.out, HBe.out⟩, rfl, rfl, rfl, rfl, rfl, rfl, rfl, rfl⟩ | exact ⟨_, _, _, _, _, _, _, _, _, ⟨k + 1, by omega, by go_num, ρ, HBk2.out, HSt.out, HBe.out⟩, rfl, rfl, rfl, rfl, rfl, rfl, rfl, rfl, rfl⟩ | exact ⟨_, _, _, _, _, _, _, _, _, ⟨k + 1, ρ, by omega, by go_num, HBk2.out, HSt.out, HBe.out⟩, rfl, rfl, rfl, rfl, rfl, rfl, rfl, rfl, rfl⟩ | exact ⟨_, _, _, _, _, _, _, _, _, _, ⟨k + 1, by omega, by go_num, ρ, HBk2.out, HSt.out, HBe.out⟩, rfl, rfl, rfl, rfl, rfl, rfl, rfl, rfl, rfl, rfl⟩ | exact ⟨_, _, _, _, _, _, _, _, _, _, ⟨k + 1, ρ, by omega, by go_num, HBk2.out, HSt.out, HBe.out⟩, rfl, rfl, rfl, rfl, rfl, rfl, rfl, rfl, rfl, rfl⟩ | exact ⟨_, _, _, _, _, _, _, _, _, _, _, ⟨k + 1, by omega, by go_num, ρ, HBk2.out, HSt.out, HBe.out⟩, rfl, rfl, rfl, rfl, rfl, rfl, rfl, rfl, rfl, rfl, rfl⟩ | exact ⟨_, _, _, _, _, _, _, _, _, _, _, ⟨k + 1, ρ, by omega, by go_num, HBk2.out, HSt.out, HBe.out⟩, rfl, rfl, rfl, rfl, rfl, rfl, rfl, rfl, rfl, rfl, rfl⟩
              case measure => simp [intOf]; omega
        · have e : L.length = k := by omega
          subst e
          have hr1 := HR.out.below hbe (by omega)
          have d0 := hr1.cell 0
          have d1 := hr1.cell 1
          have d2 := hr1.cell 2
          have d3 := hr1.cell 3
          have g0 := hr1.open_ 0
          have g1 := hr1.open_ 1
          have g2 := hr1.open_ 2
          have g3 := hr1.open_ 3
          have q3 := hst.box.cell 3
          have hfb := (((hr1.set 0 (.slice o1 J.length cap1)).set 1 (.map (some (S + 1 + 1)))).set 2 (.slice ol J.length cl)).set 3 (.slice none 0 0)
          have hfw := ((((HB.out.trans (hbe.mono (by omega))).setCell (p := ⟨S + 1, 0, none⟩) (by show S ≤ S + 1; omega) (.slice o1 J.length cap1)).setCell (p := ⟨S + 1, 1, none⟩) (by show S ≤ S + 1; omega) (.map (some (S + 1 + 1)))).setCell (p := ⟨S + 1, 2, none⟩) (by show S ≤ S + 1; omega) (.slice ol J.length cl)).setCell (p := ⟨S + 1, 3, none⟩) (by show S ≤ S + 1; omega) (.slice none 0 0)
          have HSf := Lib.hid (hst.high (W := (((wr.setCell ⟨S + 1, 0, none⟩ (.slice o1 J.length cap1)).setCell ⟨S + 1, 1, none⟩ (.map (some (S + 1 + 1)))).setCell ⟨S + 1, 2, none⟩ (.slice ol J.length cl)).setCell ⟨S + 1, 3, none⟩ (.slice none 0 0)) (fun j h1 h2 => low_set4 _ _ _ _ _ _ j (by omega)))
          have HFB := Lib.hid hfb
          have HFW := Lib.hid hfw
          clear hbk hst hbe hr1 hfb hfw hlt
          go_wp2_with fail
          have z0 := HFB.out.cell 0
          have z1 := HFB.out.cell 1
          have z2 := HFB.out.cell 2
          have z3 := HFB.out.cell 3
          simp at z0 z1 z2 z3
          refine bodyPost_ret (v := .agg #[.slice o1 J.length cap1, .map (some (S + 1 + 1)), .slice ol J.length cl, .slice none 0 0]) (by simp [results, Tryd.results56, go_sem, z0, z1, z2, z3]) rfl ⟨J, L, bl, ρ, _, _, _, _, rfl, HSf.out, HPe.out, HBk.out, by rw [HS.out]; exact HFW.out⟩

end Go.Proofs.YtbefkngeffpokaaDoor
