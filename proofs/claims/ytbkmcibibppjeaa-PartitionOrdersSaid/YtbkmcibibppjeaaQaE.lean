/- Three laws of the lattice. -/
import Derived.Test.YtbkmcibibppjeaaQaD
import Derived.WalkKit
import Derived.WalkSpells
import Derived.WalkLawsBesides
import Derived.Handy
import Derived.Deep.QuietTactic
import Derived.BigQuiet
import Derived.Outline
import Derived.Laws.BitsAllLaws
import Derived.IntWalk
import Derived.Lib.SmallJoins
import Derived.Lib.Hide
import Derived.Deep.DeepCutAuto
import Derived.LoopTactic
import Derived.Deep.RegionWith
namespace Go.Proofs.Ytbkmcibibppjeaa
set_option linter.unusedVariables false
set_option linter.unusedSimpArgs false
open Go.RowKit Part

theorem nat_zf (m : Nat → Nat) : nat (zf m) = m := by
  funext i
  unfold nat zf
  exact Int.toNat_natCast _
theorem good_zf {n : Nat} {m : Nat → Nat} (hn : n ≤ 65536) (h : Wf n m) : Good n (zf m) := ⟨hn, fun i _ => by unfold zf; omega, by rw [nat_zf]; exact h⟩
theorem Good.zf {n : Nat} {f : Nat → Int} (h : Good n f) : ∀ i, i < n → f i = zf (nat f) i := fun i hi => by
  have h1 := h.2.1 i hi
  show f i = ((f i).toNat : Int)
  omega
def MRes (n : Nat) (a b : Nat → Nat) (w : World) (e : Ending) (w' : World) : Prop := ∃ m, IsMeet n a b m ∧ PRes n (Go.Proofs.Ytbkmcibibppjeaa.zf m) 0 w e w'
theorem meet_n (n : Nat) (hn : n ≤ 65536) (a b : Nat → Nat) (ha : Wf n a) (hb : Wf n b) (o p : Option Addr) (cap cap' : Nat) (w : World) (hL : Lz w o n (zf a)) (hL' : Lz w p n (zf b)) : Calls Try.prog 27 #[.slice o n cap, .slice p n cap'] w (MRes n a b w) := by
  refine (meet_good n (zf a) (zf b) (good_zf hn ha) (good_zf hn hb) o p cap cap' w hL hL').mono ?_
  intro e w' h
  refine ⟨lab (fun j => (Go.Proofs.Ytbkmcibibppjeaa.zf a j, Go.Proofs.Ytbkmcibibppjeaa.zf b j)), ⟨lab_wf _ n, fun i j hi hj => ?_⟩, h⟩
  rw [lab_eq]
  unfold Go.Proofs.Ytbkmcibibppjeaa.zf
  rw [Prod.mk.injEq]
  exact ⟨fun h => ⟨by omega, by omega⟩, fun h => ⟨by omega, by omega⟩⟩
theorem join_n (n : Nat) (hn : n ≤ 65536) (a b : Nat → Nat) (ha : Wf n a) (hb : Wf n b) (o p : Option Addr) (cap cap' : Nat) (w : World) (hL : Lz w o n (zf a)) (hL' : Lz w p n (zf b)) : Calls Try.prog 29 #[.slice o n cap, .slice p n cap'] w (JRes n a b w) := by
  have h := join_good n (zf a) (zf b) (good_zf hn ha) (good_zf hn hb) o p cap cap' w hL hL'
  rw [nat_zf, nat_zf] at h
  exact h
theorem fin_n (n : Nat) (hn : n ≤ 65536) (a b : Nat → Nat) (ha : Wf n a) (hb : Wf n b) (o p : Option Addr) (cap cap' : Nat) (w : World) (hL : Lz w o n (zf a)) (hL' : Lz w p n (zf b)) : Calls Try.prog 25 #[.slice o n cap, .slice p n cap'] w fun e w' => e = .returned (.tuple #[.bool (finb n (zf a) (zf b)), .int .i64 0]) ∧ Below w.heap.size w w' :=
  fin_good n (zf a) (zf b) (good_zf hn ha) (good_zf hn hb) o p cap cap' w hL hL'
theorem count_n (n : Nat) (hn : n ≤ 65536) (a : Nat → Nat) (ha : Wf n a) (o : Option Addr) (cap : Nat) (w : World) (hL : Lz w o n (zf a)) : Calls Try.prog 15 #[.slice o n cap] w fun e w' => e = .returned (.tuple #[.int .i64 ((cnt a n : Nat) : Int), .int .i64 0]) ∧ w = w' := by
  have h := cc_good n (zf a) (good_zf hn ha) o cap w hL
  rw [nat_zf] at h
  exact h
theorem fine_iff (n : Nat) (a b : Nat → Nat) : finb n (zf a) (zf b) = true ↔ Fine n a b := by
  unfold finb Fine zf
  rw [decide_eq_true_iff]
  exact ⟨fun h i j hi hj e => by have := h i hi j hj (by omega); omega, fun h i hi j hj e => by have := h i j hi hj (by omega); omega⟩
theorem eqb_iff (n : Nat) (a b : Nat → Nat) : eqb n (zf a) n (zf b) = true ↔ ∀ i, i < n → a i = b i := by
  unfold eqb zf
  rw [decide_eq_true_iff]
  exact ⟨fun h i hi => by have := h.2 i hi; omega, fun h => ⟨rfl, fun i hi => by have := h i hi; omega⟩⟩
theorem equal_n (n : Nat) (hn : n ≤ 65536) (a b : Nat → Nat) (h : ∀ i, i < n → a i = b i) (o p : Option Addr) (cap cap' : Nat) (w : World) (hL : Lz w o n (zf a)) (hL' : Lz w p n (zf b)) : Calls Try.prog 35 #[.slice o n cap, .slice p n cap'] w fun e w' => e = .returned (.bool true) ∧ Below w.heap.size w w' := by
  have h1 := equal_any n n (by omega) (zf a) (zf b) o p cap cap' w hL hL'
  rw [(eqb_iff n a b).2 h] at h1
  exact h1
/-- Meet and join come back, and that there was no error. -/
def TRes (n : Nat) (a b : Nat → Nat) (w : World) (e : Ending) (w' : World) : Prop := ∃ m j o c o' c', e = .returned (.tuple #[.slice o n c, .slice o' n c', .bool true]) ∧ IsMeet n a b m ∧ IsJoin n a b j ∧ Lz w' o n (Go.Proofs.Ytbkmcibibppjeaa.zf m) ∧ Lz w' o' n (Go.Proofs.Ytbkmcibibppjeaa.zf j) ∧ Below w.heap.size w w'
set_option maxHeartbeats 1000000 in
theorem two_n (n : Nat) (hn : n ≤ 65536) (a b : Nat → Nat) (ha : Wf n a) (hb : Wf n b) (o p : Option Addr) (cap cap' : Nat) (w : World) (hL : Lz w o n (zf a)) (hL' : Lz w p n (zf b)) : Calls Try.prog 34 #[.slice o n cap, .slice p n cap'] w (TRes n a b w) := by
  have Ln := Lib.hid hL
  have Lm := Lib.hid hL'
  have HM := Lib.hid (fun W h1 h2 => meet_n n hn a b ha hb o p cap cap' W h1 h2)
  have HJ := Lib.hid (fun W h1 h2 => join_n n hn a b ha hb o p cap cap' W h1 h2)
  clear hL hL' ha hb
  go_enter Try.func34, Try.ntmps34
  go_wp2_with fail
  refine (HM.out _ Ln.out Lm.out).mono ?_
  rintro e W1 ⟨m, hm, q, c, rfl, hl, hb⟩
  have Ln1 := Lib.hid (Ln.out.below hb)
  have Lm1 := Lib.hid (Lm.out.below hb)
  have A := Lib.hid hl
  have B := Lib.hid hb
  have HMM := Lib.hid hm
  clear hm hl hb Ln Lm
  go_wp2_with fail
  refine (HJ.out _ Ln1.out Lm1.out).mono ?_
  rintro e W2 ⟨j, hj, q2, c2, rfl, hl, hb⟩
  have A2 := Lib.hid (A.out.below hb)
  have J := Lib.hid hl
  have B2 := Lib.hid (B.out.trans (Joins.below_le hb B.out.size))
  have HJJ := Lib.hid hj
  clear hj hl hb Ln1 Lm1 A B HM HJ
  go_wp2_with fail
  exact bodyPost_ret (v := .tuple #[.slice q n c, .slice q2 n c2, .bool true]) (by simp [results, Try.results34, go_sem]) rfl ⟨m, j, _, _, _, _, rfl, HMM.out, HJJ.out, A2.out, J.out, B2.out⟩

set_option maxRecDepth 100000 in
set_option maxHeartbeats 16000000 in
theorem lattice_ok (n : Nat) (f : Nat → Int) (o : Option Addr) (cap : Nat) (m : Nat) (g : Nat → Int) (p : Option Addr) (cap' : Nat) (w : World) (hLa : Lz w o n f) (hLb : Lz w p m g) : Calls Try.prog 7 #[.slice o n cap, .slice p m cap'] w fun e w' => e = .returned (.bool true) ∧ Below w.heap.size w w' := by
  have hx : Below w.heap.size w (w.alloc (.cells #[.slice o n cap, .slice p m cap'] 22)) := (Below.refl _ _).alloc (Nat.le_refl _) _
  have HFew := good_any 2 (by decide) (by decide) (fun c => if c = 0 then o else p) (fun c => if c = 0 then n else m) (fun c => if c = 0 then cap else cap') (fun c => if c = 0 then f else g) w.heap.size 2 (w.alloc (.cells #[.slice o n cap, .slice p m cap'] 22)) (by simp) (by
    intro c hc
    obtain rfl | rfl : c = 0 ∨ c = 1 := by omega
    · exact World.cell?_alloc_mark _ _ _ (0, 0) 0
    · exact World.cell?_alloc_mark _ _ _ (0, 0) 1) (by
    intro c hc
    obtain rfl | rfl : c = 0 ∨ c = 1 := by omega
    · exact hLa.below hx
    · exact hLb.below hx)
  rw [allb_succ, allb_one] at HFew
  simp only [if_true, if_neg Nat.one_ne_zero] at HFew
  obtain ⟨r, hr⟩ : ∃ r, (goodb n f n && goodb m g n) = r := ⟨_, rfl⟩
  rw [hr] at HFew
  have HFW := Lib.hid HFew
  clear HFew
  have La := Lib.hid (hLa.below hx)
  have Lb := Lib.hid (hLb.below hx)
  have B := Lib.hid hx
  clear hx hLa hLb
  cases r with
  | false =>
    clear hr
    go_enter Try.func7, Try.ntmps7
    go_wp2_with fail
    refine HFW.out.mono ?_
    rintro e W ⟨rfl, hb⟩
    replace B := Lib.hid (B.out.trans (Joins.below_le hb B.out.size))
    clear hb
    go_wp2_with fail
    refine (awake_ok _).mono ?_
    rintro e W1 ⟨rfl, hb⟩
    replace B := Lib.hid (B.out.trans (Joins.below_le hb B.out.size))
    clear hb 
    go_wp2_with fail
    go_ret
    exact ⟨rfl, B.out⟩
  | true =>
    rw [Bool.and_eq_true] at hr
    obtain ⟨hn0, hp0, _⟩ := of_decide_eq_true hr.1
    obtain ⟨_, hp1, rfl⟩ := of_decide_eq_true hr.2
    have G0 := (pcd_zero _ _).1 hp0
    have G1 := (pcd_zero _ _).1 hp1
    obtain ⟨N, hN⟩ : ∃ N, N = m := ⟨_, rfl⟩
    subst hN
    replace La := Lib.hid (La.out.congr G0.zf)
    obtain ⟨a, ha⟩ : ∃ x, nat f = x := ⟨_, rfl⟩
    rw [ha] at La
    have Wa := Lib.hid (ha ▸ G0.2.2)
    replace Lb := Lib.hid (Lb.out.congr G1.zf)
    obtain ⟨b, hb⟩ : ∃ x, nat g = x := ⟨_, rfl⟩
    rw [hb] at Lb
    have Wb := Lib.hid (hb ▸ G1.2.2)
    have hN : N ≤ 65536 := by omega
    clear hr G0 hp0 ha G1 hp1 hb
    go_enter Try.func7, Try.ntmps7
    go_wp2_with fail
    refine HFW.out.mono ?_
    rintro e W ⟨rfl, hb⟩
    replace La := Lib.hid (La.out.below hb)
    replace Lb := Lib.hid (Lb.out.below hb)
    replace B := Lib.hid (B.out.trans (Joins.below_le hb B.out.size))
    clear hb
    go_wp2_with fail
    refine (two_n N hN a b Wa.out Wb.out _ _ _ _ _ La.out Lb.out).mono ?_
    rintro e W1 ⟨m1, j1, om1, cm1, oj1, cj1, rfl, hm, hj, hlm, hlj, hb⟩
    replace La := Lib.hid (La.out.below hb)
    replace Lb := Lib.hid (Lb.out.below hb)
    replace B := Lib.hid (B.out.trans (Joins.below_le hb B.out.size))
    have Lm1 := Lib.hid hlm
    have Lj1 := Lib.hid hlj
    clear hb hlm hlj
    have Mm1 := Lib.hid hm
    have Jj1 := Lib.hid hj
    have Wm1 := Lib.hid hm.1
    have Wj1 := Lib.hid hj.1
    clear hm hj
    go_wp2_with fail
    refine (two_n N hN b a Wb.out Wa.out _ _ _ _ _ Lb.out La.out).mono ?_
    rintro e W2 ⟨m2, j2, om2, cm2, oj2, cj2, rfl, hm, hj, hlm, hlj, hb⟩
    replace La := Lib.hid (La.out.below hb)
    replace Lb := Lib.hid (Lb.out.below hb)
    replace Lm1 := Lib.hid (Lm1.out.below hb)
    replace Lj1 := Lib.hid (Lj1.out.below hb)
    replace B := Lib.hid (B.out.trans (Joins.below_le hb B.out.size))
    have Lm2 := Lib.hid hlm
    have Lj2 := Lib.hid hlj
    clear hb hlm hlj
    have Mm2 := Lib.hid hm
    have Jj2 := Lib.hid hj
    have Wm2 := Lib.hid hm.1
    have Wj2 := Lib.hid hj.1
    clear hm hj
    go_wp2_with fail
    refine (two_n N hN a a Wa.out Wa.out _ _ _ _ _ La.out La.out).mono ?_
    rintro e W3 ⟨m3, j3, om3, cm3, oj3, cj3, rfl, hm, hj, hlm, hlj, hb⟩
    replace La := Lib.hid (La.out.below hb)
    replace Lb := Lib.hid (Lb.out.below hb)
    replace Lm1 := Lib.hid (Lm1.out.below hb)
    replace Lj1 := Lib.hid (Lj1.out.below hb)
    replace Lm2 := Lib.hid (Lm2.out.below hb)
    replace Lj2 := Lib.hid (Lj2.out.below hb)
    replace B := Lib.hid (B.out.trans (Joins.below_le hb B.out.size))
    have Lm3 := Lib.hid hlm
    have Lj3 := Lib.hid hlj
    clear hb hlm hlj
    have Mm3 := Lib.hid hm
    have Jj3 := Lib.hid hj
    have Wm3 := Lib.hid hm.1
    have Wj3 := Lib.hid hj.1
    clear hm hj
    go_wp2_with fail
    refine (equal_n N hN m1 m2 (meet_unique Mm1.out (meet_comm Mm2.out)) _ _ _ _ _ Lm1.out Lm2.out).mono ?_
    rintro e W4 ⟨rfl, hb⟩
    replace La := Lib.hid (La.out.below hb)
    replace Lb := Lib.hid (Lb.out.below hb)
    replace Lm1 := Lib.hid (Lm1.out.below hb)
    replace Lj1 := Lib.hid (Lj1.out.below hb)
    replace Lm2 := Lib.hid (Lm2.out.below hb)
    replace Lj2 := Lib.hid (Lj2.out.below hb)
    replace Lm3 := Lib.hid (Lm3.out.below hb)
    replace Lj3 := Lib.hid (Lj3.out.below hb)
    replace B := Lib.hid (B.out.trans (Joins.below_le hb B.out.size))
    clear hb 
    go_wp2_with fail
    refine (equal_n N hN j1 j2 (join_unique Jj1.out (join_comm Jj2.out)) _ _ _ _ _ Lj1.out Lj2.out).mono ?_
    rintro e W5 ⟨rfl, hb⟩
    replace La := Lib.hid (La.out.below hb)
    replace Lb := Lib.hid (Lb.out.below hb)
    replace Lm1 := Lib.hid (Lm1.out.below hb)
    replace Lj1 := Lib.hid (Lj1.out.below hb)
    replace Lm2 := Lib.hid (Lm2.out.below hb)
    replace Lj2 := Lib.hid (Lj2.out.below hb)
    replace Lm3 := Lib.hid (Lm3.out.below hb)
    replace Lj3 := Lib.hid (Lj3.out.below hb)
    replace B := Lib.hid (B.out.trans (Joins.below_le hb B.out.size))
    clear hb 
    go_wp2_with fail
    refine (equal_n N hN m3 a (meet_unique Mm3.out (meet_idem Wa.out)) _ _ _ _ _ Lm3.out La.out).mono ?_
    rintro e W6 ⟨rfl, hb⟩
    replace La := Lib.hid (La.out.below hb)
    replace Lb := Lib.hid (Lb.out.below hb)
    replace Lm1 := Lib.hid (Lm1.out.below hb)
    replace Lj1 := Lib.hid (Lj1.out.below hb)
    replace Lm2 := Lib.hid (Lm2.out.below hb)
    replace Lj2 := Lib.hid (Lj2.out.below hb)
    replace Lm3 := Lib.hid (Lm3.out.below hb)
    replace Lj3 := Lib.hid (Lj3.out.below hb)
    replace B := Lib.hid (B.out.trans (Joins.below_le hb B.out.size))
    clear hb 
    go_wp2_with fail
    refine (equal_n N hN j3 a (join_unique Jj3.out (join_idem Wa.out)) _ _ _ _ _ Lj3.out La.out).mono ?_
    rintro e W7 ⟨rfl, hb⟩
    replace La := Lib.hid (La.out.below hb)
    replace Lb := Lib.hid (Lb.out.below hb)
    replace Lm1 := Lib.hid (Lm1.out.below hb)
    replace Lj1 := Lib.hid (Lj1.out.below hb)
    replace Lm2 := Lib.hid (Lm2.out.below hb)
    replace Lj2 := Lib.hid (Lj2.out.below hb)
    replace Lm3 := Lib.hid (Lm3.out.below hb)
    replace Lj3 := Lib.hid (Lj3.out.below hb)
    replace B := Lib.hid (B.out.trans (Joins.below_le hb B.out.size))
    clear hb 
    clear Lb Lm2 Lj2 Lm3 Lj3
    go_wp2_with fail
    refine (join_n N hN a m1 Wa.out Wm1.out _ _ _ _ _ La.out Lm1.out).mono ?_
    rintro e W8 ⟨u, hm, ou, cu, rfl, hl, hb⟩
    replace La := Lib.hid (La.out.below hb)
    replace Lm1 := Lib.hid (Lm1.out.below hb)
    replace Lj1 := Lib.hid (Lj1.out.below hb)
    replace B := Lib.hid (B.out.trans (Joins.below_le hb B.out.size))
    have Lu := Lib.hid hl
    clear hb hl
    have Ju := Lib.hid hm
    have Wu := Lib.hid hm.1
    clear hm
    go_wp2_with fail
    refine (meet_n N hN a j1 Wa.out Wj1.out _ _ _ _ _ La.out Lj1.out).mono ?_
    rintro e W9 ⟨d, hm, od, cd, rfl, hl, hb⟩
    replace La := Lib.hid (La.out.below hb)
    replace Lm1 := Lib.hid (Lm1.out.below hb)
    replace Lj1 := Lib.hid (Lj1.out.below hb)
    replace Lu := Lib.hid (Lu.out.below hb)
    replace B := Lib.hid (B.out.trans (Joins.below_le hb B.out.size))
    have Ld := Lib.hid hl
    clear hb hl
    have Md := Lib.hid hm
    have Wd := Lib.hid hm.1
    clear hm
    go_wp2_with fail
    refine (equal_n N hN u a (join_unique Ju.out (join_absorbs Wa.out Mm1.out)) _ _ _ _ _ Lu.out La.out).mono ?_
    rintro e W10 ⟨rfl, hb⟩
    replace La := Lib.hid (La.out.below hb)
    replace Lm1 := Lib.hid (Lm1.out.below hb)
    replace Lj1 := Lib.hid (Lj1.out.below hb)
    replace Lu := Lib.hid (Lu.out.below hb)
    replace Ld := Lib.hid (Ld.out.below hb)
    replace B := Lib.hid (B.out.trans (Joins.below_le hb B.out.size))
    clear hb 
    go_wp2_with fail
    refine (equal_n N hN d a (meet_unique Md.out (meet_absorbs Wa.out Jj1.out)) _ _ _ _ _ Ld.out La.out).mono ?_
    rintro e W11 ⟨rfl, hb⟩
    replace La := Lib.hid (La.out.below hb)
    replace Lm1 := Lib.hid (Lm1.out.below hb)
    replace Lj1 := Lib.hid (Lj1.out.below hb)
    replace Lu := Lib.hid (Lu.out.below hb)
    replace Ld := Lib.hid (Ld.out.below hb)
    replace B := Lib.hid (B.out.trans (Joins.below_le hb B.out.size))
    clear hb 
    clear La Lm1 Lj1 Lu Ld
    go_wp2_with fail
    refine (awake_ok _).mono ?_
    rintro e W12 ⟨rfl, hb⟩
    replace B := Lib.hid (B.out.trans (Joins.below_le hb B.out.size))
    clear hb 
    go_wp2_with fail
    go_ret
    exact ⟨rfl, B.out⟩

set_option maxRecDepth 100000 in
set_option maxHeartbeats 16000000 in
theorem groups_ok (n : Nat) (f : Nat → Int) (o : Option Addr) (cap : Nat) (m : Nat) (g : Nat → Int) (p : Option Addr) (cap' : Nat) (l : Nat) (h : Nat → Int) (q : Option Addr) (cap2 : Nat) (w : World) (hLa : Lz w o n f) (hLb : Lz w p m g) (hLc : Lz w q l h) : Calls Try.prog 8 #[.slice o n cap, .slice p m cap', .slice q l cap2] w fun e w' => e = .returned (.bool true) ∧ Below w.heap.size w w' := by
  have hx : Below w.heap.size w (w.alloc (.cells #[.slice o n cap, .slice p m cap', .slice q l cap2] 22)) := (Below.refl _ _).alloc (Nat.le_refl _) _
  have HFew := good_any 3 (by decide) (by decide) (fun c => if c = 0 then o else if c = 1 then p else q) (fun c => if c = 0 then n else if c = 1 then m else l) (fun c => if c = 0 then cap else if c = 1 then cap' else cap2) (fun c => if c = 0 then f else if c = 1 then g else h) w.heap.size 3 (w.alloc (.cells #[.slice o n cap, .slice p m cap', .slice q l cap2] 22)) (by simp) (by
    intro c hc
    obtain rfl | rfl | rfl : c = 0 ∨ c = 1 ∨ c = 2 := by omega
    · exact World.cell?_alloc_mark _ _ _ (0, 0) 0
    · exact World.cell?_alloc_mark _ _ _ (0, 0) 1
    · exact World.cell?_alloc_mark _ _ _ (0, 0) 2) (by
    intro c hc
    obtain rfl | rfl | rfl : c = 0 ∨ c = 1 ∨ c = 2 := by omega
    · exact hLa.below hx
    · exact hLb.below hx
    · exact hLc.below hx)
  rw [allb_succ, allb_succ, allb_one] at HFew
  simp only [if_true, if_neg Nat.one_ne_zero, if_neg (show ¬ (2 = 0) by decide), if_neg (show ¬ (2 = 1) by decide)] at HFew
  obtain ⟨r, hr⟩ : ∃ r, (goodb n f n && goodb m g n && goodb l h n) = r := ⟨_, rfl⟩
  rw [hr] at HFew
  have HFW := Lib.hid HFew
  clear HFew
  have La := Lib.hid (hLa.below hx)
  have Lb := Lib.hid (hLb.below hx)
  have Lc := Lib.hid (hLc.below hx)
  have B := Lib.hid hx
  clear hx hLa hLb hLc
  cases r with
  | false =>
    clear hr
    go_enter Try.func8, Try.ntmps8
    go_wp2_with fail
    refine HFW.out.mono ?_
    rintro e W ⟨rfl, hb⟩
    replace B := Lib.hid (B.out.trans (Joins.below_le hb B.out.size))
    clear hb
    go_wp2_with fail
    refine (awake_ok _).mono ?_
    rintro e W1 ⟨rfl, hb⟩
    replace B := Lib.hid (B.out.trans (Joins.below_le hb B.out.size))
    clear hb 
    go_wp2_with fail
    go_ret
    exact ⟨rfl, B.out⟩
  | true =>
    rw [Bool.and_eq_true, Bool.and_eq_true] at hr
    obtain ⟨hn0, hp0, _⟩ := of_decide_eq_true hr.1.1
    obtain ⟨_, hp1, rfl⟩ := of_decide_eq_true hr.1.2
    obtain ⟨_, hp2, rfl⟩ := of_decide_eq_true hr.2
    have G0 := (pcd_zero _ _).1 hp0
    have G1 := (pcd_zero _ _).1 hp1
    have G2 := (pcd_zero _ _).1 hp2
    obtain ⟨N, hN⟩ : ∃ N, N = l := ⟨_, rfl⟩
    subst hN
    replace La := Lib.hid (La.out.congr G0.zf)
    obtain ⟨a, ha⟩ : ∃ x, nat f = x := ⟨_, rfl⟩
    rw [ha] at La
    have Wa := Lib.hid (ha ▸ G0.2.2)
    replace Lb := Lib.hid (Lb.out.congr G1.zf)
    obtain ⟨b, hb⟩ : ∃ x, nat g = x := ⟨_, rfl⟩
    rw [hb] at Lb
    have Wb := Lib.hid (hb ▸ G1.2.2)
    replace Lc := Lib.hid (Lc.out.congr G2.zf)
    obtain ⟨c, hc⟩ : ∃ x, nat h = x := ⟨_, rfl⟩
    rw [hc] at Lc
    have Wc := Lib.hid (hc ▸ G2.2.2)
    have hN : N ≤ 65536 := by omega
    clear hr G0 hp0 ha G1 hp1 hb G2 hp2 hc
    go_enter Try.func8, Try.ntmps8
    go_wp2_with fail
    refine HFW.out.mono ?_
    rintro e W ⟨rfl, hb⟩
    replace La := Lib.hid (La.out.below hb)
    replace Lb := Lib.hid (Lb.out.below hb)
    replace Lc := Lib.hid (Lc.out.below hb)
    replace B := Lib.hid (B.out.trans (Joins.below_le hb B.out.size))
    clear hb
    go_wp2_with fail
    refine (two_n N hN a b Wa.out Wb.out _ _ _ _ _ La.out Lb.out).mono ?_
    rintro e W1 ⟨m1, j1, om1, cm1, oj1, cj1, rfl, hm, hj, hlm, hlj, hb⟩
    replace La := Lib.hid (La.out.below hb)
    replace Lb := Lib.hid (Lb.out.below hb)
    replace Lc := Lib.hid (Lc.out.below hb)
    replace B := Lib.hid (B.out.trans (Joins.below_le hb B.out.size))
    have Lm1 := Lib.hid hlm
    have Lj1 := Lib.hid hlj
    clear hb hlm hlj
    have Mm1 := Lib.hid hm
    have Jj1 := Lib.hid hj
    have Wm1 := Lib.hid hm.1
    have Wj1 := Lib.hid hj.1
    clear hm hj
    go_wp2_with fail
    refine (two_n N hN b c Wb.out Wc.out _ _ _ _ _ Lb.out Lc.out).mono ?_
    rintro e W2 ⟨m2, j2, om2, cm2, oj2, cj2, rfl, hm, hj, hlm, hlj, hb⟩
    replace La := Lib.hid (La.out.below hb)
    replace Lb := Lib.hid (Lb.out.below hb)
    replace Lc := Lib.hid (Lc.out.below hb)
    replace Lm1 := Lib.hid (Lm1.out.below hb)
    replace Lj1 := Lib.hid (Lj1.out.below hb)
    replace B := Lib.hid (B.out.trans (Joins.below_le hb B.out.size))
    have Lm2 := Lib.hid hlm
    have Lj2 := Lib.hid hlj
    clear hb hlm hlj
    have Mm2 := Lib.hid hm
    have Jj2 := Lib.hid hj
    have Wm2 := Lib.hid hm.1
    have Wj2 := Lib.hid hj.1
    clear hm hj
    go_wp2_with fail
    refine (meet_n N hN m1 c Wm1.out Wc.out _ _ _ _ _ Lm1.out Lc.out).mono ?_
    rintro e W3 ⟨x1, hm, ox1, cx1, rfl, hl, hb⟩
    replace La := Lib.hid (La.out.below hb)
    replace Lb := Lib.hid (Lb.out.below hb)
    replace Lc := Lib.hid (Lc.out.below hb)
    replace Lm1 := Lib.hid (Lm1.out.below hb)
    replace Lj1 := Lib.hid (Lj1.out.below hb)
    replace Lm2 := Lib.hid (Lm2.out.below hb)
    replace Lj2 := Lib.hid (Lj2.out.below hb)
    replace B := Lib.hid (B.out.trans (Joins.below_le hb B.out.size))
    have Lx1 := Lib.hid hl
    clear hb hl
    have Mx1 := Lib.hid hm
    have Wx1 := Lib.hid hm.1
    clear hm
    go_wp2_with fail
    refine (meet_n N hN a m2 Wa.out Wm2.out _ _ _ _ _ La.out Lm2.out).mono ?_
    rintro e W4 ⟨x2, hm, ox2, cx2, rfl, hl, hb⟩
    replace La := Lib.hid (La.out.below hb)
    replace Lb := Lib.hid (Lb.out.below hb)
    replace Lc := Lib.hid (Lc.out.below hb)
    replace Lm1 := Lib.hid (Lm1.out.below hb)
    replace Lj1 := Lib.hid (Lj1.out.below hb)
    replace Lm2 := Lib.hid (Lm2.out.below hb)
    replace Lj2 := Lib.hid (Lj2.out.below hb)
    replace Lx1 := Lib.hid (Lx1.out.below hb)
    replace B := Lib.hid (B.out.trans (Joins.below_le hb B.out.size))
    have Lx2 := Lib.hid hl
    clear hb hl
    have Mx2 := Lib.hid hm
    have Wx2 := Lib.hid hm.1
    clear hm
    go_wp2_with fail
    refine (join_n N hN j1 c Wj1.out Wc.out _ _ _ _ _ Lj1.out Lc.out).mono ?_
    rintro e W5 ⟨y1, hm, oy1, cy1, rfl, hl, hb⟩
    replace La := Lib.hid (La.out.below hb)
    replace Lb := Lib.hid (Lb.out.below hb)
    replace Lc := Lib.hid (Lc.out.below hb)
    replace Lm1 := Lib.hid (Lm1.out.below hb)
    replace Lj1 := Lib.hid (Lj1.out.below hb)
    replace Lm2 := Lib.hid (Lm2.out.below hb)
    replace Lj2 := Lib.hid (Lj2.out.below hb)
    replace Lx1 := Lib.hid (Lx1.out.below hb)
    replace Lx2 := Lib.hid (Lx2.out.below hb)
    replace B := Lib.hid (B.out.trans (Joins.below_le hb B.out.size))
    have Ly1 := Lib.hid hl
    clear hb hl
    have Jy1 := Lib.hid hm
    have Wy1 := Lib.hid hm.1
    clear hm
    go_wp2_with fail
    refine (join_n N hN a j2 Wa.out Wj2.out _ _ _ _ _ La.out Lj2.out).mono ?_
    rintro e W6 ⟨y2, hm, oy2, cy2, rfl, hl, hb⟩
    replace La := Lib.hid (La.out.below hb)
    replace Lb := Lib.hid (Lb.out.below hb)
    replace Lc := Lib.hid (Lc.out.below hb)
    replace Lm1 := Lib.hid (Lm1.out.below hb)
    replace Lj1 := Lib.hid (Lj1.out.below hb)
    replace Lm2 := Lib.hid (Lm2.out.below hb)
    replace Lj2 := Lib.hid (Lj2.out.below hb)
    replace Lx1 := Lib.hid (Lx1.out.below hb)
    replace Lx2 := Lib.hid (Lx2.out.below hb)
    replace Ly1 := Lib.hid (Ly1.out.below hb)
    replace B := Lib.hid (B.out.trans (Joins.below_le hb B.out.size))
    have Ly2 := Lib.hid hl
    clear hb hl
    have Jy2 := Lib.hid hm
    have Wy2 := Lib.hid hm.1
    clear hm
    go_wp2_with fail
    refine (equal_n N hN x1 x2 (meet_assoc Mm1.out Mm2.out Mx1.out Mx2.out) _ _ _ _ _ Lx1.out Lx2.out).mono ?_
    rintro e W7 ⟨rfl, hb⟩
    replace La := Lib.hid (La.out.below hb)
    replace Lb := Lib.hid (Lb.out.below hb)
    replace Lc := Lib.hid (Lc.out.below hb)
    replace Lm1 := Lib.hid (Lm1.out.below hb)
    replace Lj1 := Lib.hid (Lj1.out.below hb)
    replace Lm2 := Lib.hid (Lm2.out.below hb)
    replace Lj2 := Lib.hid (Lj2.out.below hb)
    replace Lx1 := Lib.hid (Lx1.out.below hb)
    replace Lx2 := Lib.hid (Lx2.out.below hb)
    replace Ly1 := Lib.hid (Ly1.out.below hb)
    replace Ly2 := Lib.hid (Ly2.out.below hb)
    replace B := Lib.hid (B.out.trans (Joins.below_le hb B.out.size))
    clear hb 
    go_wp2_with fail
    refine (equal_n N hN y1 y2 (join_assoc Jj1.out Jj2.out Jy1.out Jy2.out) _ _ _ _ _ Ly1.out Ly2.out).mono ?_
    rintro e W8 ⟨rfl, hb⟩
    replace La := Lib.hid (La.out.below hb)
    replace Lb := Lib.hid (Lb.out.below hb)
    replace Lc := Lib.hid (Lc.out.below hb)
    replace Lm1 := Lib.hid (Lm1.out.below hb)
    replace Lj1 := Lib.hid (Lj1.out.below hb)
    replace Lm2 := Lib.hid (Lm2.out.below hb)
    replace Lj2 := Lib.hid (Lj2.out.below hb)
    replace Lx1 := Lib.hid (Lx1.out.below hb)
    replace Lx2 := Lib.hid (Lx2.out.below hb)
    replace Ly1 := Lib.hid (Ly1.out.below hb)
    replace Ly2 := Lib.hid (Ly2.out.below hb)
    replace B := Lib.hid (B.out.trans (Joins.below_le hb B.out.size))
    clear hb 
    clear La Lb Lc Lm1 Lj1 Lm2 Lj2 Lx1 Lx2 Ly1 Ly2
    go_wp2_with fail
    refine (awake_ok _).mono ?_
    rintro e W9 ⟨rfl, hb⟩
    replace B := Lib.hid (B.out.trans (Joins.below_le hb B.out.size))
    clear hb 
    go_wp2_with fail
    go_ret
    exact ⟨rfl, B.out⟩

set_option maxRecDepth 100000 in
set_option maxHeartbeats 16000000 in
theorem orders_ok (n : Nat) (f : Nat → Int) (o : Option Addr) (cap : Nat) (m : Nat) (g : Nat → Int) (p : Option Addr) (cap' : Nat) (w : World) (hLa : Lz w o n f) (hLb : Lz w p m g) : Calls Try.prog 9 #[.slice o n cap, .slice p m cap'] w fun e w' => e = .returned (.bool true) ∧ Below w.heap.size w w' := by
  have hx : Below w.heap.size w (w.alloc (.cells #[.slice o n cap, .slice p m cap'] 22)) := (Below.refl _ _).alloc (Nat.le_refl _) _
  have HFew := good_any 2 (by decide) (by decide) (fun c => if c = 0 then o else p) (fun c => if c = 0 then n else m) (fun c => if c = 0 then cap else cap') (fun c => if c = 0 then f else g) w.heap.size 2 (w.alloc (.cells #[.slice o n cap, .slice p m cap'] 22)) (by simp) (by
    intro c hc
    obtain rfl | rfl : c = 0 ∨ c = 1 := by omega
    · exact World.cell?_alloc_mark _ _ _ (0, 0) 0
    · exact World.cell?_alloc_mark _ _ _ (0, 0) 1) (by
    intro c hc
    obtain rfl | rfl : c = 0 ∨ c = 1 := by omega
    · exact hLa.below hx
    · exact hLb.below hx)
  rw [allb_succ, allb_one] at HFew
  simp only [if_true, if_neg Nat.one_ne_zero] at HFew
  obtain ⟨r, hr⟩ : ∃ r, (goodb n f n && goodb m g n) = r := ⟨_, rfl⟩
  rw [hr] at HFew
  have HFW := Lib.hid HFew
  clear HFew
  have La := Lib.hid (hLa.below hx)
  have Lb := Lib.hid (hLb.below hx)
  have B := Lib.hid hx
  clear hx hLa hLb
  cases r with
  | false =>
    clear hr
    go_enter Try.func9, Try.ntmps9
    go_wp2_with fail
    refine HFW.out.mono ?_
    rintro e W ⟨rfl, hb⟩
    replace B := Lib.hid (B.out.trans (Joins.below_le hb B.out.size))
    clear hb
    go_wp2_with fail
    refine (awake_ok _).mono ?_
    rintro e W1 ⟨rfl, hb⟩
    replace B := Lib.hid (B.out.trans (Joins.below_le hb B.out.size))
    clear hb 
    go_wp2_with fail
    go_ret
    exact ⟨rfl, B.out⟩
  | true =>
    rw [Bool.and_eq_true] at hr
    obtain ⟨hn0, hp0, _⟩ := of_decide_eq_true hr.1
    obtain ⟨_, hp1, rfl⟩ := of_decide_eq_true hr.2
    have G0 := (pcd_zero _ _).1 hp0
    have G1 := (pcd_zero _ _).1 hp1
    obtain ⟨N, hN⟩ : ∃ N, N = m := ⟨_, rfl⟩
    subst hN
    replace La := Lib.hid (La.out.congr G0.zf)
    obtain ⟨a, ha⟩ : ∃ x, nat f = x := ⟨_, rfl⟩
    rw [ha] at La
    have Wa := Lib.hid (ha ▸ G0.2.2)
    replace Lb := Lib.hid (Lb.out.congr G1.zf)
    obtain ⟨b, hb⟩ : ∃ x, nat g = x := ⟨_, rfl⟩
    rw [hb] at Lb
    have Wb := Lib.hid (hb ▸ G1.2.2)
    have hN : N ≤ 65536 := by omega
    clear hr G0 hp0 ha G1 hp1 hb
    go_enter Try.func9, Try.ntmps9
    go_wp2_with fail
    refine HFW.out.mono ?_
    rintro e W ⟨rfl, hb⟩
    replace La := Lib.hid (La.out.below hb)
    replace Lb := Lib.hid (Lb.out.below hb)
    replace B := Lib.hid (B.out.trans (Joins.below_le hb B.out.size))
    clear hb
    go_wp2_with fail
    refine (two_n N hN a b Wa.out Wb.out _ _ _ _ _ La.out Lb.out).mono ?_
    rintro e W1 ⟨m1, j1, om1, cm1, oj1, cj1, rfl, hm, hj, hlm, hlj, hb⟩
    replace La := Lib.hid (La.out.below hb)
    replace Lb := Lib.hid (Lb.out.below hb)
    replace B := Lib.hid (B.out.trans (Joins.below_le hb B.out.size))
    have Lm1 := Lib.hid hlm
    have Lj1 := Lib.hid hlj
    clear hb hlm hlj
    have Mm1 := Lib.hid hm
    have Jj1 := Lib.hid hj
    have Wm1 := Lib.hid hm.1
    have Wj1 := Lib.hid hj.1
    clear hm hj
    obtain ⟨x, hx⟩ : ∃ x, finb N (zf a) (zf b) = x := ⟨_, rfl⟩
    have HFn := Lib.hid (fun W (h1 : Lz W o N (zf a)) h2 => fin_n N hN a b Wa.out Wb.out o p cap cap' W h1 h2)
    have HE1 := Lib.hid (fun W (h1 : Lz W om1 N (zf m1)) h2 => equal_any N N (by omega) (zf m1) (zf a) om1 o cm1 cap W h1 h2)
    have HE2 := Lib.hid (fun W (h1 : Lz W oj1 N (zf j1)) h2 => equal_any N N (by omega) (zf j1) (zf b) oj1 p cj1 cap' W h1 h2)
    have e1 : eqb N (zf m1) N (zf a) = x := by rw [← hx]; exact Bool.eq_iff_iff.2 ((eqb_iff N m1 a).trans ((fine_iff N a b).trans (fine_meet Wa.out Mm1.out)).symm)
    have e2 : eqb N (zf j1) N (zf b) = x := by rw [← hx]; exact Bool.eq_iff_iff.2 ((eqb_iff N j1 b).trans ((fine_iff N a b).trans (fine_join Wb.out Jj1.out)).symm)
    rw [hx] at HFn
    rw [e1] at HE1
    rw [e2] at HE2
    have f1 : finb N (zf m1) (zf a) = true := (fine_iff N m1 a).2 fun i j hi hj e => ((Mm1.out.2 i j hi hj).1 e).1
    have f2 : finb N (zf b) (zf j1) = true := (fine_iff N b j1).2 fun i j hi hj e => (Jj1.out.2 i j hi hj).2 (.two hj e)
    have HF1 := Lib.hid (fun W (h1 : Lz W om1 N (zf m1)) h2 => fin_n N hN m1 a Wm1.out Wa.out om1 o cm1 cap W h1 h2)
    have HF2 := Lib.hid (fun W (h1 : Lz W p N (zf b)) h2 => fin_n N hN b j1 Wb.out Wj1.out p oj1 cap' cj1 W h1 h2)
    rw [f1] at HF1
    rw [f2] at HF2
    have q1 : cnt j1 N ≤ cnt a N := cnt_fine Wa.out Wj1.out (fun i j hi hj e => (Jj1.out.2 i j hi hj).2 (.one hj e)) N (Nat.le_refl N)
    have q2 : cnt a N ≤ cnt m1 N := cnt_fine Wm1.out Wa.out (fun i j hi hj e => ((Mm1.out.2 i j hi hj).1 e).1) N (Nat.le_refl N)
    have HC1 := Lib.hid (fun W (h1 : Lz W o N (zf a)) => count_n N hN a Wa.out o cap W h1)
    have HC2 := Lib.hid (fun W (h1 : Lz W om1 N (zf m1)) => count_n N hN m1 Wm1.out om1 cm1 W h1)
    have HC3 := Lib.hid (fun W (h1 : Lz W oj1 N (zf j1)) => count_n N hN j1 Wj1.out oj1 cj1 W h1)
    obtain ⟨n1, hn1⟩ : ∃ x, cnt a N = x := ⟨_, rfl⟩
    obtain ⟨n2, hn2⟩ : ∃ x, cnt m1 N = x := ⟨_, rfl⟩
    obtain ⟨n3, hn3⟩ : ∃ x, cnt j1 N = x := ⟨_, rfl⟩
    rw [hn1] at q1 q2 HC1
    rw [hn2] at q2 HC2
    rw [hn3] at q1 HC3
    have q1' : (n3 : Int) ≤ (n1 : Int) := by omega
    have q2' : (n1 : Int) ≤ (n2 : Int) := by omega
    clear hx e1 e2 f1 f2 hn1 hn2 hn3 q1 q2
    go_wp2_with fail
    refine (HFn.out _ La.out Lb.out).mono ?_
    rintro e W2 ⟨rfl, hb⟩
    replace La := Lib.hid (La.out.below hb)
    replace Lb := Lib.hid (Lb.out.below hb)
    replace Lm1 := Lib.hid (Lm1.out.below hb)
    replace Lj1 := Lib.hid (Lj1.out.below hb)
    replace B := Lib.hid (B.out.trans (Joins.below_le hb B.out.size))
    clear hb 
    go_wp2_with fail
    refine (HF1.out _ Lm1.out La.out).mono ?_
    rintro e W3 ⟨rfl, hb⟩
    replace La := Lib.hid (La.out.below hb)
    replace Lb := Lib.hid (Lb.out.below hb)
    replace Lm1 := Lib.hid (Lm1.out.below hb)
    replace Lj1 := Lib.hid (Lj1.out.below hb)
    replace B := Lib.hid (B.out.trans (Joins.below_le hb B.out.size))
    clear hb 
    go_wp2_with fail
    refine (HF2.out _ Lb.out Lj1.out).mono ?_
    rintro e W4 ⟨rfl, hb⟩
    replace La := Lib.hid (La.out.below hb)
    replace Lb := Lib.hid (Lb.out.below hb)
    replace Lm1 := Lib.hid (Lm1.out.below hb)
    replace Lj1 := Lib.hid (Lj1.out.below hb)
    replace B := Lib.hid (B.out.trans (Joins.below_le hb B.out.size))
    clear hb 
    go_wp2_with fail
    refine (HE1.out _ Lm1.out La.out).mono ?_
    rintro e W5 ⟨rfl, hb⟩
    replace La := Lib.hid (La.out.below hb)
    replace Lb := Lib.hid (Lb.out.below hb)
    replace Lm1 := Lib.hid (Lm1.out.below hb)
    replace Lj1 := Lib.hid (Lj1.out.below hb)
    replace B := Lib.hid (B.out.trans (Joins.below_le hb B.out.size))
    clear hb 
    have hxx : (x != x) = false := by simp
    go_wp2_with fail
    refine (HE2.out _ Lj1.out Lb.out).mono ?_
    rintro e W6 ⟨rfl, hb⟩
    replace La := Lib.hid (La.out.below hb)
    replace Lb := Lib.hid (Lb.out.below hb)
    replace Lm1 := Lib.hid (Lm1.out.below hb)
    replace Lj1 := Lib.hid (Lj1.out.below hb)
    replace B := Lib.hid (B.out.trans (Joins.below_le hb B.out.size))
    clear hb 
    go_wp2_with fail
    refine (HC1.out _ La.out).mono ?_
    rintro e w' ⟨rfl, rfl⟩
    go_wp2_with fail
    refine (HC2.out _ Lm1.out).mono ?_
    rintro e w' ⟨rfl, rfl⟩
    go_wp2_with fail
    refine (HC3.out _ Lj1.out).mono ?_
    rintro e w' ⟨rfl, rfl⟩
    clear La Lb Lm1 Lj1
    go_wp2_with fail
    refine (awake_ok _).mono ?_
    rintro e W7 ⟨rfl, hb⟩
    replace B := Lib.hid (B.out.trans (Joins.below_le hb B.out.size))
    clear hb 
    go_wp2_with fail
    go_ret
    exact ⟨rfl, B.out⟩

end Go.Proofs.Ytbkmcibibppjeaa
