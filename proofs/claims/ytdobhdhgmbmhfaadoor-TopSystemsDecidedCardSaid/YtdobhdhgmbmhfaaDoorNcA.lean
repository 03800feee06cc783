/- Multiply of the package: the rows of a product, one after another. -/
import Derived.Test.YtdobhdhgmbmhfaaDoorMxJ
import Derived.Test.YtdobhdhgmbmhfaaDoorMxQ
import Derived.Test.YtdobhdhgmbmhfaaDoorMxS
import Derived.WalkKit
import Derived.WalkSpells
import Derived.WalkLawsBesides
import Derived.Handy
import Derived.Deep.QuietTactic
import Derived.BigQuiet
import Derived.Outline
import Derived.Laws.BitsAllLaws
import Derived.IntWalk
import Derived.Lib.SmallJoins
import Derived.Lib.Hide
import Derived.Deep.DeepCutAuto
import Derived.LoopTactic
import Derived.Deep.RegionWith
import Derived.Laws.CopyOwn
import Derived.Maps.OwnOps
import Derived.Maps.OwnSet
import Derived.Laws.OwnMore
import Derived.Maps.AppendAt
import Derived.RangeFuncNested
import Derived.RangeFuncBound
import Derived.RangeFuncCalls
import Derived.RangeFuncLeaves
import Derived.RangeFuncBox
import Derived.RangeFuncFrom
import Derived.Shelf.Abstract
import Derived.Shelf.RegionOpen
import Derived.OwnWalkIn
import Derived.TacticsInMore
import Derived.LoopNIn
import Derived.LoopIn
import Derived.Deep.RegionHeld3
import Derived.RegionTactic
import Derived.ChangeAlike
namespace Go.Proofs.YtdobhdhgmbmhfaaDoor
set_option linter.unusedVariables false
set_option linter.unusedSimpArgs false
open Go.RowKit


/-- Only two blocks are changed. -/
structure T2 (B x y : Nat) (w w' : World) : Prop where
  os : w'.os = w.os
  tape : w'.tape = w.tape
  output : w'.output = w.output
  size : w.heap.size ≤ w'.heap.size
  block : ∀ k, k < B → k < w.heap.size → k ≠ x → k ≠ y → w'.heap[k]? = w.heap[k]?
theorem T2.refl (B x y : Nat) (w : World) : T2 B x y w w := ⟨rfl, rfl, rfl, Nat.le_refl _, fun _ _ _ _ _ => rfl⟩
theorem T2.trans {B x y : Nat} {a b c : World} (h : T2 B x y a b) (k : T2 B x y b c) : T2 B x y a c := ⟨k.os.trans h.os, k.tape.trans h.tape, k.output.trans h.output, Nat.le_trans h.size k.size, fun i h0 hi h1 h2 => (k.block i h0 (Nat.lt_of_lt_of_le hi h.size) h1 h2).trans (h.block i h0 hi h1 h2)⟩
theorem T2.of {B x y : Nat} {w w' : World} (h : Below w.heap.size w w') : T2 B x y w w' := ⟨h.os, h.tape, h.output, h.size, fun k _ hk _ _ => h.block k hk⟩
theorem T2.kept {Z x y b : Nat} {w A B : World} (h : T2 Z x y w A) (hk : Kept (some b) A.heap.size A B) (hb : w.heap.size ≤ b) : T2 Z x y w B :=
  ⟨hk.os.trans h.os, hk.tape.trans h.tape, hk.output.trans h.output, Nat.le_trans h.size hk.size, fun i h0 hi h1 h2 => (hk.block i (Nat.lt_of_lt_of_le hi h.size) (fun e => by cases e; omega)).trans (h.block i h0 hi h1 h2)⟩
theorem T2.below {Z x y : Nat} {w A B : World} (h : Below w.heap.size w A) (t : T2 Z x y A B) (hx : w.heap.size ≤ x) (hy : w.heap.size ≤ y) (hZ : w.heap.size ≤ Z) : Below w.heap.size w B :=
  ⟨t.os.trans h.os, t.tape.trans h.tape, t.output.trans h.output, Nat.le_trans h.size t.size, fun k hk => (t.block k (by omega) (Nat.lt_of_lt_of_le hk h.size) (by omega) (by omega)).trans (h.block k hk)⟩
theorem T2.box {Z x y : Nat} {w w' : World} (h : T2 Z x y w w') {b : Nat} {c : Array Value} {t : TypeId} (hb : Box w b c t) (h0 : b < Z) (h1 : b ≠ x) (h2 : b ≠ y) : Box w' b c t := (h.block b h0 hb.lt h1 h2).trans hb
theorem products_in (m : Nat) (C D : Int) (K M : Nat) (o p : Option Addr) (cap cap' : Nat) (w : World) :
    CallsIn Fence.wide m Tryd.prog 31 #[.agg #[.int .i64 C, .slice o K cap], .agg #[.int .i64 D, .slice p M cap']] w fun e w' => e = .returned (.func (.func 37) #[] #[.pointer (some ⟨w.heap.size + 1, 0, none⟩), .pointer (some ⟨w.heap.size, 0, none⟩)]) ∧ w' = (w.alloc (.cells #[.int .i64 C, .slice o K cap] 24)).alloc (.cells #[.int .i64 D, .slice p M cap'] 24) := by
  refine callsIn_of_wp Tryd.func31 rfl trivial ?_ rfl
  simp only [Tryd.ntmps31, List.size_toArray, List.length_cons, List.length_nil, Nat.reduceAdd, Nat.reduceSub, Array.replicate_succ, Array.replicate_zero, List.push_toArray, List.append_toArray, List.nil_append, List.cons_append]
  gi_wp2
  go_ret
  exact ⟨rfl, rfl⟩
set_option maxRecDepth 100000 in
set_option maxHeartbeats 4000000 in
theorem products1_in (m : Nat) (hm : 1 ≤ m) (l C K n : Nat) (hC : C ≤ 31) (hK : K ≤ 31) (hn : n ≤ 31) (a b : Nat → Nat) (hb : ∀ i, i < n → b i < 2 ^ C) (A Bk x : Nat) (o p : Option Addr) (cap cap' : Nat) (wm W0 : World) (hT : Tb wm) (hM : Mx wm o K n a) (hM' : Mx wm p n C b)
    (hbe : Below wm.heap.size wm W0) (hx : wm.heap.size ≤ x) (hl : wm.heap.size ≤ l) (hxl : x < W0.heap.size) (hll : l < W0.heap.size)
    (bA : Box W0 A #[.int .i64 (n : Int), .slice o K cap] 24) (bB : Box W0 Bk #[.int .i64 (C : Int), .slice p n cap'] 24) (hA : A ≠ x ∧ A ≠ l ∧ Bk ≠ x ∧ Bk ≠ l)
    (J : Nat → World → Prop) (hJ : ∀ k U V, W0.heap.size < U.heap.size → Kept (some W0.heap.size) U.heap.size U V → J k U → J k V) (hJ0 : ∀ V, Below W0.heap.size W0 V → W0.heap.size < V.heap.size → J 0 V)
    (hY : ∀ k v U W, k < K → J k U → W0.heap.size < U.heap.size → T2 (W0.heap.size + 1) x l W0 U → Below U.heap.size U W → Row W U.heap.size v (ints (el C (mulr n a b k))) → YieldAt Fence.wide (m - 1) Tryd.prog l #[v] W fun e W' => e = .returned (.bool true) ∧ J (k + 1) W' ∧ T2 (W0.heap.size + 1) x l W W') :
    CallsIn Fence.wide m Tryd.prog 37 #[.func (.yield l) #[] #[], .pointer (some ⟨Bk, 0, none⟩), .pointer (some ⟨A, 0, none⟩)] W0 fun e W' => (∃ v, e = .returned v) ∧ J K W' ∧ T2 (W0.heap.size + 1) x l W0 W' := by
  have HNb := Lib.hid (newbits_ok C (by omega) W0)
  have HJ := Lib.hid hJ
  have HY := Lib.hid hY
  have HM := Lib.hid hM
  have HM' := Lib.hid hM'
  have HT := Lib.hid hT
  have HBe := Lib.hid hbe
  have HBb := Lib.hid hb
  have HJ0 := Lib.hid hJ0
  have HAb := Lib.hid bA
  have HBo := Lib.hid bB
  have HNe := Lib.hid hA
  have q0 := bB.cell 0
  clear hJ hY hM hM' hT hbe hb hJ0 bA bB hA
  refine callsIn_of_wp Tryd.func37 rfl trivial ?_ rfl
  simp only [Tryd.ntmps37, List.size_toArray, List.length_cons, List.length_nil, Nat.reduceAdd, Nat.reduceSub, Array.replicate_succ, Array.replicate_zero, List.push_toArray, List.append_toArray, List.nil_append, List.cons_append]
  gi_wp2_with (refine ⟨trivial, ?_⟩; gi_at_call 22; refine (callsIn_wide.2 HNb.out).mono ?_; rintro e W1 ⟨rfl, hbx, hb1⟩; have q1 := (HAb.out.below hb1 HAb.out.lt).cell 1; have HBx := Lib.hid hbx; have HB1 := Lib.hid hb1; clear hbx hb1 q0)
  obtain ⟨bv, hbv⟩ : ∃ b, W0.heap.size = b := ⟨_, rfl⟩
  have hsz1 : bv < W1.heap.size := by rw [← hbv]; exact Box.lt HBx.out
  have HBV := Lib.hid hbv
  have HS1 := Lib.hid hsz1
  rw [hbv] at HBx HJ HY ⊢
  clear q1 hbv hsz1
  gi_loopw [15] (fun j wr => ∃ (k s : Nat), k ≤ K ∧ j = .int .i64 (k : Int) ∧ Bx wr bv s ∧ J k wr ∧ T2 (bv + 1) x l W0 wr ∧ bv < wr.heap.size) (fun j _ => K - (intOf j).toNat)
  case atStart => exact ⟨0, 0, by omega, by first | trivial | rfl, HBx.out, HJ0.out _ HB1.out (by have := HBV.out; have := HS1.out; omega), .of HB1.out, HS1.out⟩
  case round =>
    obtain ⟨wk, rfl⟩ : ∃ W, W = wr := ⟨_, rfl⟩
    obtain ⟨k, sx, hk, rfl, hbx, hj, ht, hsz⟩ := hrel
    by_cases hlt : k < K
    · have hk1 : (k : Int) < (K : Int) := by omega
      have hbW : Below wm.heap.size wm wk := T2.below HBe.out ht hx hl (by have := HBV.out; have := HBe.out.size; omega)
      obtain ⟨bM, oM, oc, cpc, rfl, hbM, e1, l1⟩ := HM.out.at_ hlt
      have e2 := (hbW.cell (p := ⟨bM, oM + k, none⟩) hbM).trans e1
      have HCl := Lib.hid (clear_ok bv sx wk hbx)
      have HL1 := Lib.hid l1
      have HJk := Lib.hid hj
      have HTk := Lib.hid ht
      have HSz := Lib.hid hsz
      obtain ⟨n3, hn3⟩ : ∃ n', (el n (a k)).length = n' := ⟨_, rfl⟩
      rw [hn3] at e2 HL1
      have HN3 := Lib.hid hn3
      have hn31 : n3 ≤ 31 := by rw [← hn3]; have := el_len n (a k); omega
      have HBM := Lib.hid hbM
      clear hbx hj ht hsz hbW e1 l1 hn3 hbM hlt
      gi_wp2_with (refine ⟨trivial, ?_⟩; gi_at_call 38; refine (callsIn_wide.2 HCl.out).mono ?_; rintro e y1 ⟨rfl, hb1, hk1⟩; have HV1 := Lib.hid hb1; have HK1 := Lib.hid hk1; clear hb1 hk1)
      gi_loopw [23] (fun j wl => ∃ jj : Nat, jj ≤ n3 ∧ j = .int .i64 (jj : Int) ∧ Bx wl bv (sumr b 0 ((el n (a k)).take jj)) ∧ sumr b 0 ((el n (a k)).take jj) < 2 ^ C ∧ Kept (some bv) wk.heap.size wk wl) (fun j _ => n3 - (intOf j).toNat)
      case atStart => exact ⟨0, by omega, by first | trivial | rfl, by simpa [sumr] using HV1.out, by simp [sumr]; exact Nat.two_pow_pos _, HK1.out⟩
      case round =>
        obtain ⟨jj, hj, rfl, hbx, hlt2, hkp⟩ := hrel
        have hbvv := HBV.out
        have htw : T2 (bv + 1) x l W0 wr := HTk.out.kept hkp (by omega)
        have hbW : Below wm.heap.size wm wr := T2.below HBe.out htw hx hl (by have := HBe.out.size; omega)
        have hX := (htw.box HBo.out (by have := HBo.out.lt; omega) HNe.out.2.2.1 HNe.out.2.2.2)
        have c0 := hX.cell 0
        have c1 := hX.cell 1
        have h32 : ∀ y, y < 2 ^ C → y < 4294967296 := fun y hy => Nat.lt_of_lt_of_le hy (Nat.le_trans (Nat.pow_le_pow_right (n := 2) (by omega) (show C ≤ 32 by omega)) (by omega))
        by_cases hlj : jj < n3
        · have hj1 : (jj : Int) < (n3 : Int) := by omega
          have hzz := HL1.out.below hbW
          obtain ⟨bl, ofs, rfl, hbl2, hcc⟩ := hzz (by omega)
          have c2 := hcc jj hlj
          have hjl : jj < (el n (a k)).length := by rw [HN3.out]; exact hlj
          obtain ⟨z, hz⟩ : ∃ z, (el n (a k)).getD jj 0 = z := ⟨_, rfl⟩
          have c3 : wr.cell? ⟨bl, ofs + jj, none⟩ = some (.int .i64 (z : Int)) := by rw [← hz]; exact c2
          have hzk : z < n := (el_mem.1 (by rw [← hz, List.getD_eq_getElem?_getD, List.getElem?_eq_getElem hjl]; exact List.getElem_mem _ : z ∈ el n (a k))).1
          have htk : (el n (a k)).take (jj + 1) = (el n (a k)).take jj ++ [z] := by rw [take_getD hjl, hz]
          have hsn : sumr b 0 ((el n (a k)).take (jj + 1)) = sumr b 0 ((el n (a k)).take jj) ^^^ b z := by rw [htk, sumr_snoc]
          have hx1 : (z : Int) < (n : Int) := by omega
          obtain ⟨bN, oN, od, cpd, rfl, hbN, e1, l1⟩ := HM'.out.at_ hzk
          have e3 := (hbW.cell (p := ⟨bN, oN + z, none⟩) hbN).trans e1
          have hfl := flipall_ok bv (sumr b 0 ((el n (a k)).take jj)) (h32 _ hlt2) (el C (b z)) (fun i hi => by have := (el_mem.1 hi).1; omega) (by have := el_len C (b z); omega) od cpd wr hbx (l1.below hbW) (fun hn g off e => by have := l1.blk hn e; have := HBe.out.size; omega)
          rw [flips_eq, msk_el (HBb.out z hzk), ← hsn] at hfl
          have hl3 : sumr b 0 ((el n (a k)).take (jj + 1)) < 2 ^ C := by rw [hsn]; exact Nat.xor_lt_two_pow hlt2 (HBb.out z hzk)
          obtain ⟨n4, hn4⟩ : ∃ n, (el C (b z)).length = n := ⟨_, rfl⟩
          rw [hn4] at hfl e3
          have HFl := Lib.hid hfl
          have HL3 := Lib.hid hl3
          have HKp := Lib.hid hkp
          clear hcc c2 hz hzz hjl htk hsn e1 l1 hfl hn4 hl3 hbW hX hbx hlt2 hkp h32 hbl2 hbN htw
          gi_wp2_with (refine ⟨trivial, ?_⟩; gi_at_call 23; refine (callsIn_wide.2 HFl.out).mono ?_; rintro e w5 ⟨rfl, hb5, hk5⟩; have HB5 := Lib.hid hb5; have HK5 := Lib.hid (HKp.out.trans (hk5.le HKp.out.size)); clear hb5 hk5)
          go_roundw
          case rel => exact ⟨jj + 1, by omega, by go_num, HB5.out, HL3.out, HK5.out⟩
          case measure => simp [intOf]; omega
        · have e : jj = n3 := by omega
          subst e
          have hfull : (el n (a k)).take jj = el n (a k) := List.take_of_length_le (by rw [HN3.out]; exact Nat.le_refl _)
          rw [hfull] at hbx hlt2
          have hjw : J k wr := HJ.out k wk wr HSz.out hkp HJk.out
          have hsw : bv < wr.heap.size := Nat.lt_of_lt_of_le HSz.out hkp.size
          have HLi := Lib.hid (list_ok bv (mulr n a b k) C (h32 _ hlt2) hC wr hbx (HT.out.here hbW))
          have HYk := Lib.hid (fun v W (h : Below wr.heap.size wr W) (hr : Row W wr.heap.size v (ints (el C (mulr n a b k)))) => HY.out k v wr W (by omega) hjw hsw htw h hr)
          have HTw := Lib.hid htw
          have HBx2 := Lib.hid hbx
          have HSw := Lib.hid hsw
          clear hfull hbx hlt2 hjw hsw htw hbW hX h32 hlj hkp
          gi_wp2_with (refine ⟨trivial, ?_⟩; gi_at_call 36; refine (callsIn_wide.2 HLi.out).mono ?_; rintro e w6 ⟨v, rfl, hrow, hb6⟩; obtain ⟨fn, tmps, assign, body, hyy, hR⟩ := HYk.out v w6 hb6 hrow; have HB6 := Lib.hid hb6; clear hrow hb6)
          refine hR.mono ?_
          rintro e W3 ⟨rfl, hj3, ht3⟩
          have HJ3 := Lib.hid hj3
          have HT3 := Lib.hid ((HTw.out.trans (.of HB6.out)).trans ht3)
          have HX3 : Hid (Bx W3 bv (mulr n a b k)) := Lib.hid (ht3.box (Bx.below HBx2.out HB6.out HSw.out) (Nat.lt_succ_self _) (by have := HBV.out; omega) (by have := HBV.out; omega))
          have HS3 : Hid (bv < W3.heap.size) := Lib.hid (by have := HSw.out; have := HB6.out.size; have := ht3.size; omega)
          clear hj3 ht3
          gi_wp2
          go_roundw
          case rel => exact ⟨k + 1, _, by omega, by go_num, HX3.out, HJ3.out, HT3.out, HS3.out⟩
          case measure => simp [intOf]; omega
    · have e : k = K := by omega
      subst e
      clear hlt
      have HJk := Lib.hid hj
      have HTk := Lib.hid ht
      clear hbx hj ht hsz
      gi_wp2
      go_end0
      exact ⟨⟨_, rfl⟩, HJk.out, by rw [HBV.out]; exact HTk.out⟩

end Go.Proofs.YtdobhdhgmbmhfaaDoor
