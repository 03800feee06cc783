/- MatrixRanks, whatever the matrix. -/
import Derived.Test.YtbefkngeffpokaaDoorMyZ
import Derived.WalkKit
import Derived.WalkSpells
import Derived.WalkLawsBesides
import Derived.Handy
import Derived.Deep.QuietTactic
import Derived.BigQuiet
import Derived.Outline
import Derived.Laws.BitsAllLaws
import Derived.IntWalk
import Derived.Lib.SmallJoins
import Derived.Lib.Hide
import Derived.Deep.DeepCutAuto
import Derived.LoopTactic
import Derived.Deep.RegionWith
import Derived.Laws.CopyOwn
import Derived.Maps.OwnOps
import Derived.Maps.OwnSet
import Derived.Laws.OwnMore
import Derived.Maps.AppendAt
import Derived.RangeFuncNested
import Derived.RangeFuncBound
import Derived.RangeFuncCalls
import Derived.RangeFuncLeaves
import Derived.RangeFuncBox
import Derived.RangeFuncFrom
import Derived.Shelf.Abstract
import Derived.Shelf.RegionOpen
import Derived.OwnWalkIn
import Derived.TacticsInMore
import Derived.LoopNIn
import Derived.LoopIn
import Derived.Deep.RegionHeld3
import Derived.RegionTactic
import Derived.ChangeAlike
namespace Go.Proofs.YtbefkngeffpokaaDoor
set_option linter.unusedVariables false
set_option linter.unusedSimpArgs false
open Go.RowKit


def ROut (n : Int) (w : World) (e : Ending) (w' : World) : Prop := e = .returned (.tuple #[.int .i64 n, .int .i64 0]) ∧ Below w.heap.size w w'
def KOut (N K : Nat) (r : Nat → Nat) (w : World) (e : Ending) (w' : World) : Prop := ∃ o cap, e = .returned (.tuple #[.agg #[.int .i64 (N : Int), .slice o K cap], .int .i64 0]) ∧ Mx w' o K N r ∧ Below w.heap.size w w'
theorem Mx.vz {w : World} {o : Option Addr} {K N : Nat} {r : Nat → Nat} (h : Mx w o K N r) {c : Nat} (hc : c < K) : ∃ b off oc n cap, o = some ⟨b, off, none⟩ ∧ b < w.heap.size ∧ w.cell? ⟨b, off + c, none⟩ = some (.slice oc n cap) ∧ Vz w oc n N (r c) := by
  obtain ⟨b, off, oc, cap, h1, h2, h3, h4⟩ := h.at_ hc
  exact ⟨b, off, oc, _, cap, h1, h2, h3, rfl, h4⟩
theorem imr_zero {K C y : Nat} {r : Nat → Nat} (h : ∀ i, i < K → odl y (el C (r i)) = false) : imr K C r y = 0 := by
  have e : (List.range K).filter (fun i => odl y (el C (r i))) = [] := by
    rw [List.filter_eq_nil_iff]
    intro i hi
    rw [h i (List.mem_range.1 hi)]
    exact Bool.false_ne_true
  unfold imr
  rw [e]
  rfl
/-- What a matrix of K rows and N columns comes to: its rank a, and the q vectors of its kernel. -/
theorem ranks_facts (N K : Nat) (hN : N ≤ 14) (hK : K ≤ 14) (r : Nat → Nat) (hr : ∀ i, i < K → r i < 2 ^ N) : ∃ (a q : Nat) (kk : Nat → Nat), a + q = N ∧ q ≤ 14 ∧ a ≤ 14 ∧ (∀ i, i < q → kk i < 2 ^ N ∧ imr K N r (kk i) = 0) ∧
    (∀ o cap w, Mx w o K N r → Tb w → Calls Tryd.prog 28 #[.agg #[.int .i64 (N : Int), .slice o K cap]] w (ROut (a : Int) w)) ∧
    (∀ o cap w, Mx w o N K (trr K r) → Tb w → Calls Tryd.prog 28 #[.agg #[.int .i64 (K : Int), .slice o N cap]] w (ROut (a : Int) w)) ∧
    (∀ o cap w, Mx w o K N r → Tb w → Calls Tryd.prog 30 #[.agg #[.int .i64 (N : Int), .slice o K cap]] w (KOut N q kk w)) ∧
    (∀ o cap w, Mx w o q N kk → Tb w → Calls Tryd.prog 28 #[.agg #[.int .i64 (N : Int), .slice o q cap]] w (ROut (q : Int) w)) := by
  obtain ⟨S, σ, h⟩ := can_of hr
  have ht : ∀ i, i < N → trr K r i < 2 ^ K := fun i _ => trr_lt K r i
  obtain ⟨T, τ, k⟩ := can_of ht
  have hm : ∀ i, i < (nl N S).length → (nl N S).getD i 0 < N ∧ (nl N S).getD i 0 ∉ S := fun i hi => by
    rw [List.getD_eq_getElem?_getD, List.getElem?_eq_getElem hi]
    exact nl_mem.1 (List.getElem_mem _)
  have hk : ∀ i, i < (nl N S).length → (fun i => kr S σ ((nl N S).getD i 0)) i < 2 ^ N := fun i hi => kr_lt h (hm i hi).1 (hm i hi).2
  obtain ⟨U, υ, u⟩ := can_of hk
  have e1 := rank_eq hr h k
  have e2 := nl_len h.asc h.lt
  have e3 := kr_rank h u (u.len_le hk)
  refine ⟨S.length, (nl N S).length, _, e2, by omega, by omega, fun i hi => ⟨hk i hi, imr_zero fun j hj => kr_none h (hm i hi).1 (hm i hi).2 (Sp.row (rows_mem.2 ⟨j, hj, rfl⟩))⟩, fun o cap w hM hT => ?_, fun o cap w hM hT => ?_, fun o cap w hM hT => ?_, fun o cap w hM hT => ?_⟩
  · exact rank_good N K (by omega) (by omega) r hr S σ h sort_ok o cap w hM hT
  · rw [e1]
    exact rank_good K N (by omega) (by omega) _ ht T τ k sort_ok o cap w hM hT
  · refine (ker_good N K (by omega) (by omega) r hr S σ h sort_ok o cap w hM hT).mono ?_
    rintro e w' ⟨o', c', h1, h2, h3⟩
    exact ⟨o', c', h1, h2.mx, h3⟩
  · have := rank_good N _ (by omega) (by omega) _ hk U υ u sort_ok o cap w hM hT
    rw [e3] at this
    exact this
set_option maxRecDepth 100000 in
set_option maxHeartbeats 16000000 in
theorem ranks_ok (C : Int) (o : Option Addr) (K cap : Nat) (oc : Nat → Option Addr) (nc cc : Nat → Nat) (xc : Nat → Nat → Int) (w : World) (hL : Lv w o K oc nc cc xc) (hT : Tb1 w) :
    Calls Tryd.prog 9 #[mv C o K cap] w fun e w' => e = .returned (.bool true) ∧ Below w.heap.size w w' := by
  have hb2 : Below w.heap.size w ((w.alloc (.cells #[.int .i64 C, .slice o K cap] 24)).alloc (.cells #[.int .i64 C, .slice o K cap] 24)) := ((Below.refl _ _).alloc (Nat.le_refl _) _).alloc (by simp) _
  have HFw := Lib.hid (few_allq 1 (by omega) (w.heap.size + 1) (fun _ => C) (fun _ => o) (fun _ => K) (fun _ => cap) _ (by have h := mats_one (w.alloc (.cells #[.int .i64 C, .slice o K cap] 24)) C o K cap; rwa [World.size_alloc] at h) (fun _ => FewQ C K nc) (fun c hc W hW => few_q C K o cap oc nc cc xc W ((hL.below hb2).below hW)))
  have HB0 := Lib.hid hb2
  have HBx := Lib.hid ((mbox w C o K cap).alloc (.cells #[.int .i64 C, .slice o K cap] 24))
  have HT := Lib.hid hT
  have HSt := Lib.hid (fun (hq : FewQ C K nc) W (hW : Below w.heap.size w W) => ((mst_of hq hL).below hW : Mst W C o K cap))
  unfold mv
  clear hL hT hb2
  go_enter Tryd.func9, Tryd.ntmps9
  go_wp2_with fail
  refine HFw.out.mono ?_
  rintro e W1 ⟨⟨r0, rfl, hr⟩, hb1⟩
  have HB := Lib.hid (HB0.out.trans (Joins.below_le hb1 HB0.out.size))
  have XM := Lib.hid (HBx.out.below hb1 HBx.out.lt)
  have HR := Lib.hid hr
  have HT := Lib.hid (HT.out.here HB.out XM.out.lt)
  clear hb1 hr HBx HFw HB0
  cases r0 with
  | false =>
    have HA := Lib.hid (awake_ok W1 HT.out)
    go_wp2_with fail
    refine HA.out.mono ?_
    rintro e w' ⟨rfl, hb⟩
    have HE := Lib.hid (HB.out.trans (hb.mono HB.out.size))
    clear hb
    go_wp2_with fail
    go_ret
    exact ⟨rfl, HE.out⟩
  | true =>
    rcases HSt.out (HR.out rfl 0 (by omega)) W1 HB.out with ⟨c, h0, h1⟩ | ⟨N, r, rfl, hN, hK, hr, hmx⟩
    · have HC := Lib.hid (h1 W1 (Below.refl _ _)).2
      have g1 : (c != 0) = true := by rw [bne_iff_ne]; exact h0
      unfold mv at HC
      clear h0 h1 HSt HR
      have XM0 := XM.out.cell 0
      have XM1 := XM.out.cell 1
      have XM2 := fun ob => (XM.out.alloc ob).cell 0
      have XM3 := fun ob => (XM.out.alloc ob).cell 1
      go_wp2_with fail
      have hal : Below W1.heap.size W1 W1 := (Below.refl _ _)
      refine (HC.out).mono ?_
      rintro e W2 ⟨rfl, hb⟩
      have hbb : Below W1.heap.size W1 W2 := hal.trans (hb.mono hal.size)
      have HB := Lib.hid (HB.out.trans (Joins.below_le hbb HB.out.size))
      have XM := Lib.hid (XM.out.below hbb XM.out.lt)
      have HT := Lib.hid (HT.out.here hbb)
      clear XM0 XM1 XM2 XM3
      clear hal hbb hb
      have XM0 := XM.out.cell 0
      have XM1 := XM.out.cell 1
      have XM2 := fun ob => (XM.out.alloc ob).cell 0
      have XM3 := fun ob => (XM.out.alloc ob).cell 1
      have HA := Lib.hid (awake_ok W2 HT.out)
      go_wp2_with fail
      refine HA.out.mono ?_
      rintro e w' ⟨rfl, hb⟩
      have HE := Lib.hid (HB.out.trans (hb.mono HB.out.size))
      clear hb
      go_wp2_with fail
      go_ret
      exact ⟨rfl, HE.out⟩
    · have HC := Lib.hid (rcheck_mx N K (by omega) (by omega) r o cap W1 hmx)
      have M := Lib.hid hmx
      obtain ⟨a, q, kk, hsum, hq14, ha14, hkk, hf1, hf2, hf3, hf4⟩ := ranks_facts N K hN hK r hr
      have HKK := Lib.hid hkk
      have HF1 := Lib.hid hf1
      have HF2 := Lib.hid hf2
      have HF3 := Lib.hid hf3
      have HF4 := Lib.hid hf4
      have hsi : (a : Int) + (q : Int) = (N : Int) := by omega
      have Htr := Lib.hid (fun V (h : Mx V o K N r) => trans_good N K (by omega) (by omega) r o cap V h)
      unfold mv at HC Htr
      clear hmx hr HSt HR hkk hf1 hf2 hf3 hf4
      have XM0 := XM.out.cell 0
      have XM1 := XM.out.cell 1
      have XM2 := fun ob => (XM.out.alloc ob).cell 0
      have XM3 := fun ob => (XM.out.alloc ob).cell 1
      go_wp2_with fail
      have hal : Below W1.heap.size W1 W1 := (Below.refl _ _)
      refine (HC.out).mono ?_
      rintro e W2 ⟨rfl, hb⟩
      have hbb : Below W1.heap.size W1 W2 := hal.trans (hb.mono hal.size)
      have HB := Lib.hid (HB.out.trans (Joins.below_le hbb HB.out.size))
      have XM := Lib.hid (XM.out.below hbb XM.out.lt)
      have HT := Lib.hid (HT.out.here hbb)
      have M := Lib.hid (M.out.below hbb)
      clear XM0 XM1 XM2 XM3
      clear hal hbb hb
      have XM0 := XM.out.cell 0
      have XM1 := XM.out.cell 1
      have XM2 := fun ob => (XM.out.alloc ob).cell 0
      have XM3 := fun ob => (XM.out.alloc ob).cell 1
      go_wp2_with fail
      have hal : Below W2.heap.size W2 W2 := (Below.refl _ _)
      refine (Htr.out W2 M.out).mono ?_
      rintro e W3 ⟨o3, c3, rfl, hm, hb⟩
      have hbb : Below W2.heap.size W2 W3 := hal.trans (hb.mono hal.size)
      have Mt := Lib.hid (hm)
      have HB := Lib.hid (HB.out.trans (Joins.below_le hbb HB.out.size))
      have XM := Lib.hid (XM.out.below hbb XM.out.lt)
      have HT := Lib.hid (HT.out.here hbb)
      have M := Lib.hid (M.out.below hbb)
      clear XM0 XM1 XM2 XM3
      clear hal hbb hb hm
      have XM0 := XM.out.cell 0
      have XM1 := XM.out.cell 1
      have XM2 := fun ob => (XM.out.alloc ob).cell 0
      have XM3 := fun ob => (XM.out.alloc ob).cell 1
      go_wp2_with fail
      have hal : Below W3.heap.size W3 (W3.alloc (.cells #[.int .i64 (K : Int), .slice o3 N c3] 24)) := ((Below.refl _ _).alloc (by first | exact Nat.le_refl _ | (simp; done) | (simp; omega)) _)
      refine (HF1.out o cap (W3.alloc (.cells #[.int .i64 (K : Int), .slice o3 N c3] 24)) (M.out.below hal) (HT.out.here hal)).mono ?_
      rintro e W4 ⟨rfl, hb⟩
      have hbb : Below W3.heap.size W3 W4 := hal.trans (hb.mono hal.size)
      have XT := Lib.hid ((Box.new W3 #[.int .i64 (K : Int), .slice o3 N c3] 24).below hb (by simp))
      have HB := Lib.hid (HB.out.trans (Joins.below_le hbb HB.out.size))
      have XM := Lib.hid (XM.out.below hbb XM.out.lt)
      have HT := Lib.hid (HT.out.here hbb)
      have M := Lib.hid (M.out.below hbb)
      have Mt := Lib.hid (Mt.out.below hbb)
      clear XM0 XM1 XM2 XM3
      clear hal hbb hb
      have XM0 := XM.out.cell 0
      have XM1 := XM.out.cell 1
      have XM2 := fun ob => (XM.out.alloc ob).cell 0
      have XM3 := fun ob => (XM.out.alloc ob).cell 1
      have XT0 := XT.out.cell 0
      have XT1 := XT.out.cell 1
      have XT2 := fun ob => (XT.out.alloc ob).cell 0
      have XT3 := fun ob => (XT.out.alloc ob).cell 1
      go_wp2_with fail
      have hal : Below W4.heap.size W4 W4 := (Below.refl _ _)
      refine (HF2.out o3 c3 W4 Mt.out HT.out).mono ?_
      rintro e W5 ⟨rfl, hb⟩
      have hbb : Below W4.heap.size W4 W5 := hal.trans (hb.mono hal.size)
      have HB := Lib.hid (HB.out.trans (Joins.below_le hbb HB.out.size))
      have XM := Lib.hid (XM.out.below hbb XM.out.lt)
      have HT := Lib.hid (HT.out.here hbb)
      have M := Lib.hid (M.out.below hbb)
      have Mt := Lib.hid (Mt.out.below hbb)
      have XT := Lib.hid (XT.out.below hbb XT.out.lt)
      clear XM0 XM1 XM2 XM3 XT0 XT1 XT2 XT3
      clear hal hbb hb
      have XM0 := XM.out.cell 0
      have XM1 := XM.out.cell 1
      have XM2 := fun ob => (XM.out.alloc ob).cell 0
      have XM3 := fun ob => (XM.out.alloc ob).cell 1
      have XT0 := XT.out.cell 0
      have XT1 := XT.out.cell 1
      have XT2 := fun ob => (XT.out.alloc ob).cell 0
      have XT3 := fun ob => (XT.out.alloc ob).cell 1
      go_wp2_with fail
      have hal : Below W5.heap.size W5 W5 := (Below.refl _ _)
      refine (HF3.out o cap W5 M.out HT.out).mono ?_
      rintro e W6 ⟨o6, c6, rfl, hm, hb⟩
      have hbb : Below W5.heap.size W5 W6 := hal.trans (hb.mono hal.size)
      have Mk := Lib.hid (hm)
      have HB := Lib.hid (HB.out.trans (Joins.below_le hbb HB.out.size))
      have XM := Lib.hid (XM.out.below hbb XM.out.lt)
      have HT := Lib.hid (HT.out.here hbb)
      have M := Lib.hid (M.out.below hbb)
      have Mt := Lib.hid (Mt.out.below hbb)
      have XT := Lib.hid (XT.out.below hbb XT.out.lt)
      clear XM0 XM1 XM2 XM3 XT0 XT1 XT2 XT3
      clear hal hbb hb hm
      have XM0 := XM.out.cell 0
      have XM1 := XM.out.cell 1
      have XM2 := fun ob => (XM.out.alloc ob).cell 0
      have XM3 := fun ob => (XM.out.alloc ob).cell 1
      have XT0 := XT.out.cell 0
      have XT1 := XT.out.cell 1
      have XT2 := fun ob => (XT.out.alloc ob).cell 0
      have XT3 := fun ob => (XT.out.alloc ob).cell 1
      go_wp2_with fail
      have hal : Below W6.heap.size W6 (W6.alloc (.cells #[.int .i64 (N : Int), .slice o6 q c6] 24)) := ((Below.refl _ _).alloc (by first | exact Nat.le_refl _ | (simp; done) | (simp; omega)) _)
      refine (HF4.out o6 c6 (W6.alloc (.cells #[.int .i64 (N : Int), .slice o6 q c6] 24)) (Mk.out.below hal) (HT.out.here hal)).mono ?_
      rintro e W7 ⟨rfl, hb⟩
      have hbb : Below W6.heap.size W6 W7 := hal.trans (hb.mono hal.size)
      have XK := Lib.hid ((Box.new W6 #[.int .i64 (N : Int), .slice o6 q c6] 24).below hb (by simp))
      have HB := Lib.hid (HB.out.trans (Joins.below_le hbb HB.out.size))
      have XM := Lib.hid (XM.out.below hbb XM.out.lt)
      have HT := Lib.hid (HT.out.here hbb)
      have M := Lib.hid (M.out.below hbb)
      have Mt := Lib.hid (Mt.out.below hbb)
      have XT := Lib.hid (XT.out.below hbb XT.out.lt)
      have Mk := Lib.hid (Mk.out.below hbb)
      clear XM0 XM1 XM2 XM3 XT0 XT1 XT2 XT3
      clear hal hbb hb
      have XM0 := XM.out.cell 0
      have XM1 := XM.out.cell 1
      have XM2 := fun ob => (XM.out.alloc ob).cell 0
      have XM3 := fun ob => (XM.out.alloc ob).cell 1
      have XT0 := XT.out.cell 0
      have XT1 := XT.out.cell 1
      have XT2 := fun ob => (XT.out.alloc ob).cell 0
      have XT3 := fun ob => (XT.out.alloc ob).cell 1
      have XK0 := XK.out.cell 0
      have XK1 := XK.out.cell 1
      have XK2 := fun ob => (XK.out.alloc ob).cell 0
      have XK3 := fun ob => (XK.out.alloc ob).cell 1
      go_wp2_with fail
      go_loopw [87] (fun j wr => ∃ c : Nat, c ≤ q ∧ j = .int .i64 (c : Int) ∧ Below W7.heap.size W7 wr) (fun j _ => q - (intOf j).toNat)
      case atStart => exact ⟨0, by omega, by first | trivial | rfl, Below.refl _ _⟩
      case round =>
        obtain ⟨c, hc, rfl, hbe⟩ := hrel
        have HBe := Lib.hid hbe
        have HBr := Lib.hid (HB.out.trans (hbe.mono HB.out.size))
        by_cases hlt : c < q
        · have hc1 : (c : Int) < (q : Int) := by omega
          obtain ⟨b, off, oc', n', cp', rfl, hb, hcl, hvz⟩ := (Mk.out.below hbe).vz hlt
          have XM0 := (XM.out.below hbe XM.out.lt).cell 0
          have XM1 := (XM.out.below hbe XM.out.lt).cell 1
          have hap := vz_apply N K (by omega) (by omega) r o cap (kk c) (HKK.out c hlt).1 oc' n' cp' wr (M.out.below hbe) hvz
          rw [(HKK.out c hlt).2] at hap
          have HAp := Lib.hid hap
          clear hap hvz hbe hlt
          go_wp2_with fail
          refine HAp.out.mono ?_
          rintro e W8 ⟨io, ni, ic, rfl, hv, hb8⟩
          obtain rfl := hv.len0
          have HB8 := Lib.hid (HBe.out.trans (Joins.below_le hb8 HBe.out.size))
          clear hv hb8
          go_wp2_with fail
          go_roundw
          case rel => exact ⟨c + 1, by omega, by go_num, HB8.out⟩
          case measure => simp [intOf]; omega
        · have e : c = q := by omega
          subst e
          have HA := Lib.hid (awake_ok wr (HT.out.here hbe))
          clear hlt hbe
          go_wp2_with fail
          refine HA.out.mono ?_
          rintro e w' ⟨rfl, hb⟩
          have HE := Lib.hid (HBr.out.trans (hb.mono HBr.out.size))
          clear hb
          go_wp2_with fail
          go_ret
          exact ⟨rfl, HE.out⟩

end Go.Proofs.YtbefkngeffpokaaDoor
