/- Package permutation: compositions, inverses, identities, vectors. -/
import Derived.Test.YtgppdbiimlbpjaaDoorRwB
import Derived.WalkKit
import Derived.WalkSpells
import Derived.WalkLawsBesides
import Derived.Handy
import Derived.Deep.QuietTactic
import Derived.BigQuiet
import Derived.Outline
import Derived.Laws.BitsAllLaws
import Derived.IntWalk
import Derived.Lib.SmallJoins
import Derived.Lib.Hide
import Derived.Deep.DeepCutAuto
import Derived.LoopTactic
import Derived.Deep.RegionWith
namespace Go.Proofs.YtgppdbiimlbpjaaDoor
set_option linter.unusedVariables false
set_option linter.unusedSimpArgs false
open Go.RowKit

/-- What is scattered behind m steps. -/
def sct (a : Nat → Nat) (v : Nat → Int) : Nat → Nat → Int
  | 0 => fun _ => 0
  | m + 1 => updz (sct a v m) (a m) (v m)
theorem sct_at {n : Nat} {a : Nat → Nat} {v : Nat → Int} (h : Perm n a) : ∀ m, m ≤ n → ∀ q, q < m → sct a v m (a q) = v q
  | 0, _, q, hq => absurd hq (Nat.not_lt_zero _)
  | m + 1, hm, q, hq => by
    show updz (sct a v m) (a m) (v m) (a q) = _
    unfold updz
    by_cases e : q = m
    · subst e; rw [if_pos rfl]
    · rw [if_neg (fun e2 => e (h.inj q m (by omega) (by omega) e2))]
      exact sct_at h m (by omega) q (by omega)
/-- The first i values. -/
def beg (f : Nat → Int) (i : Nat) : Nat → Int := fun j => if j < i then f j else 0
theorem beg_step (f : Nat → Int) (n i : Nat) : vec n (updz (beg f i) i (f i)) = vec n (beg f (i + 1)) := vec_congr fun j _ => by
  unfold updz beg
  by_cases e : j = i
  · subst e; simp
  · rw [if_neg e]
    by_cases h1 : j < i
    · rw [if_pos h1, if_pos (by omega)]
    · rw [if_neg h1, if_neg (by omega)]
theorem beg_zero (f : Nat → Int) (n : Nat) : vec n (fun _ => 0) = vec n (beg f 0) := vec_congr fun j _ => by simp [beg]
theorem beg_all {f : Nat → Int} {n : Nat} : vec n (beg f n) = vec n f := vec_congr fun j hj => by simp [beg, hj]
theorem Box.q {w : World} {b n : Nat} {f : Nat → Int} {t : TypeId} (h : Box w b (vec n f) t) : Lq w (some ⟨b, 0, none⟩) n n f := ⟨h.lz, Nat.le_refl _⟩

set_option maxHeartbeats 1000000 in
theorem after_ok (n : Nat) (hn : n ≤ 5) (a b : Nat → Nat) (hb : ∀ i, i < n → b i < n) (o p : Option Addr) (cap cap' : Nat) (w : World) (hL : Lz w o n (zf a)) (hL' : Lz w p n (zf b)) : Calls Tryd.prog 50 #[.slice o n cap, .slice p n cap'] w (QOne n (zf fun i => a (b i)) w) := by
  have hmk := fun w => run_vec n (by omega) w
  have HL := Lib.hid hL
  have HL' := Lib.hid hL'
  have HB := Lib.hid hb
  clear hL hL' hb
  go_enter Tryd.func50, Tryd.ntmps50
  go_wp2_with fail
  go_loopw [13] (fun j wr => ∃ i : Nat, i ≤ n ∧ j = .int .i64 (i : Int) ∧ Box wr w.heap.size (vec n (beg (zf fun i => a (b i)) i)) 3 ∧ Below w.heap.size w wr) (fun j _ => n - (intOf j).toNat)
  case atStart => exact ⟨0, by omega, rfl, beg_zero _ n ▸ Box.new w _ _, (Below.refl _ _).alloc (Nat.le_refl _) _⟩
  case round =>
    clear hmk
    obtain ⟨i, hi, rfl, hbx, hbe⟩ := hrel
    have HBx := Lib.hid hbx
    have HBe := Lib.hid hbe
    clear hbx hbe
    by_cases hlt : i < n
    · obtain ⟨bl, ofs, rfl, hbl, hcl⟩ := HL.out (by omega)
      obtain ⟨bg, ofg, rfl, hbg, hcg⟩ := HL'.out (by omega)
      have hbi := HB.out i hlt
      have c1 := (HBe.out.cell (p := ⟨bg, ofg + i, none⟩) hbg).trans (hcg i hlt)
      have c2 := (HBe.out.cell (p := ⟨bl, ofs + b i, none⟩) hbl).trans (hcl (b i) hbi)
      have c3 := (HBx.out.cell i).trans (vec_get _ hlt)
      have c4 := HBx.out.open_ i
      have hst : vec n (updz (beg (zf fun i => a (b i)) i) i (zf (fun i => a (b i)) i)) = vec n (beg (zf fun i => a (b i)) (i + 1)) := beg_step _ n i
      unfold zf at c1 c2
      obtain ⟨x, hx⟩ : ∃ x, b i = x := ⟨_, rfl⟩
      rw [hx] at c1 c2 hbi
      obtain ⟨y, hy⟩ : ∃ y, a x = y := ⟨_, rfl⟩
      rw [hy] at c2
      have hz : zf (fun i => a (b i)) i = ((y : Nat) : Int) := by show ((a (b i) : Nat) : Int) = _; rw [hx, hy]
      rw [hz] at hst
      have HSt := Lib.hid hst
      have hi1 : (i : Int) < (n : Int) := by omega
      have hx1 : (x : Int) < (n : Int) := by omega
      clear hcl hcg hx hy hz hst
      go_wp2_with fail
      go_roundw
      case rel => exact ⟨i + 1, by omega, by go_num, HSt.out ▸ HBx.out.setv i _, HBe.out.setCell (by simp) _⟩
      case measure => simp [intOf]; omega
    · have e : i = n := by omega
      subst e
      go_wp2_with fail
      go_ret
      exact ⟨_, _, rfl, (beg_all ▸ HBx.out : Box wr w.heap.size (vec i _) 3).q, HBe.out⟩

theorem inv_bad (n : Nat) (x : Nat → Int) (c : Int) (hc : pcode n x = c) (h0 : c ≠ 0) (o : Option Addr) (cap : Nat) (w : World) (hL : Lq w o n cap x) : Calls Tryd.prog 13 #[.slice o n cap] w (QRes 0 (fun _ => 0) c w) := by
  have H := Lib.hid (check_any n x o cap w hL)
  rw [hc] at H
  have h1 : (c != 0) = true := by rw [bne_iff_ne]; exact h0
  clear hL hc h0
  go_enter Tryd.func13, Tryd.ntmps13
  go_wp2_with fail
  refine H.out.mono ?_
  rintro e w' ⟨rfl, HH⟩
  subst HH
  
  go_wp2_with fail
  go_ret2
  exact ⟨_, _, rfl, ⟨Lz.nil, by omega⟩, Below.refl _ _⟩

set_option maxHeartbeats 1000000 in
theorem inv_good (n : Nat) (a : Nat → Nat) (ha : Good n a) (o : Option Addr) (cap : Nat) (w : World) (hL : Lq w o n cap (zf a)) : Calls Tryd.prog 13 #[.slice o n cap] w (QRes n (sct a (zf fun i => i) n) 0 w) := by
  have H := Lib.hid (check_any n (zf a) o cap w hL)
  rw [good_code ha] at H
  have hn := ha.hi
  have hmk := fun w => run_vec n (by omega) w
  have HL := Lib.hid hL.1
  
  have HA := Lib.hid ha.perm.lt
  clear hL ha 
  go_enter Tryd.func13, Tryd.ntmps13
  go_wp2_with fail
  refine H.out.mono ?_
  rintro e w' ⟨rfl, rfl⟩
  go_wp2_with fail
  go_loopw [18] (fun j wr => ∃ i : Nat, i ≤ n ∧ j = .int .i64 (i : Int) ∧ Box wr w.heap.size (vec n (sct a (zf fun i => i) i)) 3 ∧ Below w.heap.size w wr) (fun j _ => n - (intOf j).toNat)
  case atStart => exact ⟨0, by omega, rfl, Box.new w _ _, (Below.refl _ _).alloc (Nat.le_refl _) _⟩
  case round =>
    clear hmk
    obtain ⟨i, hi, rfl, hbx, hbe⟩ := hrel
    have HBx := Lib.hid hbx
    have HBe := Lib.hid hbe
    clear hbx hbe
    by_cases hlt : i < n
    · obtain ⟨bl, ofs, rfl, hbl, hcl⟩ := HL.out (by omega)
      have hai := HA.out i hlt
      have c1 := (HBe.out.cell (p := ⟨bl, ofs + i, none⟩) hbl).trans (hcl i hlt)
      unfold zf at c1
      have c3 := (HBx.out.cell (a i)).trans (vec_get _ hai)
      have c4 := HBx.out.open_ (a i)
      obtain ⟨x, hx⟩ : ∃ x, a i = x := ⟨_, rfl⟩
      rw [hx] at c1 c3 c4 hai
      have HX := Lib.hid hx
      have hi1 : (i : Int) < (n : Int) := by omega
      have hx1 : (x : Int) < (n : Int) := by omega
      clear hcl hx
      go_wp2_with fail
      go_roundw
      case rel => exact ⟨i + 1, by omega, by go_num, ((show updz (sct a (zf fun i => i) i) x (i : Int) = sct a (zf fun i => i) (i + 1) from by show _ = updz (sct a (zf fun i => i) i) (a i) ((zf fun i => i) i); rw [HX.out]; rfl) ▸ HBx.out.setv x (i : Int)), HBe.out.setCell (by simp) _⟩
      case measure => simp [intOf]; omega
    · have e : i = n := by omega
      subst e
      go_wp2_with fail
      go_ret2
      exact ⟨_, _, rfl, HBx.out.q, HBe.out⟩

theorem vecr_bad (n : Nat) (x : Nat → Int) (c : Int) (hc : pcode n x = c) (h0 : c ≠ 0) (m : Nat) (p : Option Addr) (cap' : Nat) (o : Option Addr) (cap : Nat) (w : World) (hL : Lq w o n cap x) : Calls Tryd.prog 31 #[.slice o n cap, .slice p m cap'] w (QRes 0 (fun _ => 0) c w) := by
  have H := Lib.hid (check_any n x o cap w hL)
  rw [hc] at H
  have h1 : (c != 0) = true := by rw [bne_iff_ne]; exact h0
  clear hL hc h0
  go_enter Tryd.func31, Tryd.ntmps31
  go_wp2_with fail
  refine H.out.mono ?_
  rintro e w' ⟨rfl, HH⟩
  subst HH
  
  go_wp2_with fail
  go_ret2
  exact ⟨_, _, rfl, ⟨Lz.nil, by omega⟩, Below.refl _ _⟩

set_option maxHeartbeats 1000000 in
theorem vecr_good (n : Nat) (a : Nat → Nat) (ha : Good n a) (v : Nat → Int) (p : Option Addr) (cap' : Nat) (o : Option Addr) (cap : Nat) (w : World) (hL : Lq w o n cap (zf a)) (hL' : Lz w p n v) : Calls Tryd.prog 31 #[.slice o n cap, .slice p n cap'] w (QRes n (sct a v n) 0 w) := by
  have H := Lib.hid (check_any n (zf a) o cap w hL)
  rw [good_code ha] at H
  have hn := ha.hi
  have hmk := fun w => run_vec n (by omega) w
  have HL := Lib.hid hL.1
  have HL' := Lib.hid hL'
  have HA := Lib.hid ha.perm.lt
  clear hL ha hL'
  go_enter Tryd.func31, Tryd.ntmps31
  go_wp2_with fail
  refine H.out.mono ?_
  rintro e w' ⟨rfl, rfl⟩
  go_wp2_with fail
  go_loopw [25] (fun j wr => ∃ i : Nat, i ≤ n ∧ j = .int .i64 (i : Int) ∧ Box wr w.heap.size (vec n (sct a v i)) 3 ∧ Below w.heap.size w wr) (fun j _ => n - (intOf j).toNat)
  case atStart => exact ⟨0, by omega, rfl, Box.new w _ _, (Below.refl _ _).alloc (Nat.le_refl _) _⟩
  case round =>
    clear hmk
    obtain ⟨i, hi, rfl, hbx, hbe⟩ := hrel
    have HBx := Lib.hid hbx
    have HBe := Lib.hid hbe
    clear hbx hbe
    by_cases hlt : i < n
    · obtain ⟨bl, ofs, rfl, hbl, hcl⟩ := HL.out (by omega)
      have hai := HA.out i hlt
      have c1 := (HBe.out.cell (p := ⟨bl, ofs + i, none⟩) hbl).trans (hcl i hlt)
      unfold zf at c1
      have c3 := (HBx.out.cell (a i)).trans (vec_get _ hai)
      have c4 := HBx.out.open_ (a i)
      obtain ⟨x, hx⟩ : ∃ x, a i = x := ⟨_, rfl⟩
      rw [hx] at c1 c3 c4 hai
      have HX := Lib.hid hx
      obtain ⟨bg, ofg, rfl, hbg, hcg⟩ := HL'.out (by omega)
      have c5 := (HBe.out.cell (p := ⟨bg, ofg + i, none⟩) hbg).trans (hcg i hlt)
      obtain ⟨z, hz⟩ : ∃ z, v i = z := ⟨_, rfl⟩
      rw [hz] at c5
      have HZ := Lib.hid hz
      clear hcg hz
      have hi1 : (i : Int) < (n : Int) := by omega
      have hx1 : (x : Int) < (n : Int) := by omega
      clear hcl hx
      go_wp2_with fail
      go_roundw
      case rel => exact ⟨i + 1, by omega, by go_num, ((show updz (sct a v i) x z = sct a v (i + 1) from by show _ = updz (sct a v i) (a i) (v i); rw [HX.out, HZ.out]) ▸ HBx.out.setv x z), HBe.out.setCell (by simp) _⟩
      case measure => simp [intOf]; omega
    · have e : i = n := by omega
      subst e
      go_wp2_with fail
      go_ret2
      exact ⟨_, _, rfl, HBx.out.q, HBe.out⟩

theorem vecr_shape (n m : Nat) (a : Nat → Nat) (ha : Good n a) (hnm : m ≠ n) (o p : Option Addr) (cap cap' : Nat) (w : World) (hL : Lq w o n cap (zf a)) : Calls Tryd.prog 31 #[.slice o n cap, .slice p m cap'] w (QRes 0 (fun _ => 0) 15 w) := by
  have H := Lib.hid (check_any n (zf a) o cap w hL)
  rw [good_code ha] at H
  have h1 : (m == n) = false := by simpa using hnm
  have h2 : ((m : Int) != (n : Int)) = true := by rw [bne_iff_ne]; omega
  clear hL ha hnm
  go_enter Tryd.func31, Tryd.ntmps31
  go_wp2_with fail
  refine H.out.mono ?_
  rintro e w' ⟨rfl, rfl⟩
  go_wp2_with fail
  go_ret2
  exact ⟨_, _, rfl, ⟨Lz.nil, by omega⟩, Below.refl _ _⟩
/-- The error of a composition. -/
def pcode2 (n : Nat) (x : Nat → Int) (m : Nat) (y : Nat → Int) : Int := if pcode n x ≠ 0 then pcode n x else if pcode m y ≠ 0 then pcode m y else if n ≠ m then 22 else 0
theorem comp_good (n : Nat) (a b : Nat → Nat) (ha : Good n a) (hb : Good n b) (o p : Option Addr) (cap cap' : Nat) (w : World) (hL : Lq w o n cap (zf a)) (hL' : Lq w p n cap' (zf b)) : Calls Tryd.prog 22 #[.slice o n cap, .slice p n cap'] w (QRes n (zf fun i => a (b i)) 0 w) := by
  have H1 := Lib.hid (check_any n (zf a) o cap w hL)
  have H2 := Lib.hid (check_any n (zf b) p cap' w hL')
  have HA := Lib.hid (after_ok n ha.hi a b hb.perm.lt o p cap cap' w hL.1 hL'.1)
  rw [good_code ha] at H1
  rw [good_code hb] at H2
  clear hL hL' ha hb
  go_enter Tryd.func22, Tryd.ntmps22
  go_wp2_with fail
  refine H1.out.mono ?_
  rintro e w' ⟨rfl, rfl⟩
  go_wp2_with fail
  refine H2.out.mono ?_
  rintro e w' ⟨rfl, rfl⟩
  go_wp2_with fail
  refine HA.out.mono ?_
  rintro e w1 ⟨q, c, rfl, hl, hb⟩
  have HLL := Lib.hid hl
  have HBB := Lib.hid hb
  clear hl hb
  go_wp2_with fail
  go_ret2
  exact ⟨_, _, rfl, HLL.out, HBB.out⟩
theorem comp_bad (n m : Nat) (x y : Nat → Int) (c : Int) (hc : pcode2 n x m y = c) (h0 : c ≠ 0) (o p : Option Addr) (cap cap' : Nat) (w : World) (hL : Lq w o n cap x) (hL' : Lq w p m cap' y) : Calls Tryd.prog 22 #[.slice o n cap, .slice p m cap'] w (QRes 0 (fun _ => 0) c w) := by
  have H1 := Lib.hid (check_any n x o cap w hL)
  have H2 := Lib.hid (check_any m y p cap' w hL')
  clear hL hL'
  unfold pcode2 at hc
  obtain ⟨r1, hr1⟩ : ∃ r, pcode n x = r := ⟨_, rfl⟩
  obtain ⟨r2, hr2⟩ : ∃ r, pcode m y = r := ⟨_, rfl⟩
  rw [hr1] at hc H1
  rw [hr2] at hc H2
  clear hr1 hr2
  by_cases e1 : r1 = 0
  · rw [if_neg (by simp [e1])] at hc
    subst e1
    by_cases e2 : r2 = 0
    · rw [if_neg (by simp [e2])] at hc
      subst e2
      by_cases e3 : n = m
      · rw [if_neg (by simp [e3])] at hc
        exact absurd hc.symm h0
      · rw [if_pos e3] at hc
        subst hc
        have h1 : (n == m) = false := by simpa using e3
        have h2 : ((n : Int) != (m : Int)) = true := by rw [bne_iff_ne]; omega
        clear e3 h0
        go_enter Tryd.func22, Tryd.ntmps22
        go_wp2_with fail
        refine H1.out.mono ?_
        rintro e w' ⟨rfl, rfl⟩
        go_wp2_with fail
        refine H2.out.mono ?_
        rintro e w' ⟨rfl, rfl⟩
        go_wp2_with fail
        go_ret2
        exact ⟨_, _, rfl, ⟨Lz.nil, by omega⟩, Below.refl _ _⟩
    · rw [if_pos e2] at hc
      subst hc
      have h2 : (r2 != 0) = true := by rw [bne_iff_ne]; exact e2
      clear e2 h0
      go_enter Tryd.func22, Tryd.ntmps22
      go_wp2_with fail
      refine H1.out.mono ?_
      rintro e w' ⟨rfl, rfl⟩
      go_wp2_with fail
      refine H2.out.mono ?_
      rintro e w' ⟨rfl, rfl⟩
      go_wp2_with fail
      go_ret2
      exact ⟨_, _, rfl, ⟨Lz.nil, by omega⟩, Below.refl _ _⟩
  · rw [if_pos e1] at hc
    subst hc
    have h2 : (r1 != 0) = true := by rw [bne_iff_ne]; exact e1
    clear e1 h0
    go_enter Tryd.func22, Tryd.ntmps22
    go_wp2_with fail
    refine H1.out.mono ?_
    rintro e w' ⟨rfl, rfl⟩
    go_wp2_with fail
    go_ret2
    exact ⟨_, _, rfl, ⟨Lz.nil, by omega⟩, Below.refl _ _⟩
theorem ident_bad (n : Int) (h : n < 1 ∨ 5 < n) (w : World) : Calls Tryd.prog 24 #[.int .i64 n] w (QRes 0 (fun _ => 0) 2 w) := by
  by_cases h1 : n < 1
  · clear h
    go_enter Tryd.func24, Tryd.ntmps24
    go_wp2_with fail
    go_ret2
    exact ⟨_, _, rfl, ⟨Lz.nil, by omega⟩, Below.refl _ _⟩
  · have h2 : 1 ≤ n := by omega
    have h3 : 5 < n := by omega
    clear h h1
    go_enter Tryd.func24, Tryd.ntmps24
    go_wp2_with fail
    go_ret2
    exact ⟨_, _, rfl, ⟨Lz.nil, by omega⟩, Below.refl _ _⟩
set_option maxHeartbeats 1000000 in
theorem ident_good (n : Nat) (h1 : 1 ≤ n) (h5 : n ≤ 5) (w : World) : Calls Tryd.prog 24 #[.int .i64 (n : Int)] w (QRes n (zf fun i => i) 0 w) := by
  have hmk := fun w => run_vec n (by omega) w
  have h1' : (1 : Int) ≤ (n : Int) := by omega
  have h5' : (n : Int) ≤ 5 := by omega
  go_enter Tryd.func24, Tryd.ntmps24
  go_wp2_with fail
  go_loopw [16] (fun j wr => ∃ i : Nat, i ≤ n ∧ j = .int .i64 (i : Int) ∧ Box wr w.heap.size (vec n (idf i)) 3 ∧ Below w.heap.size w wr) (fun j _ => n - (intOf j).toNat)
  case atStart => exact ⟨0, by omega, rfl, (vec_congr (n := n) (f := fun _ => 0) (g := idf 0) (fun i _ => by simp [idf])) ▸ Box.new w _ _, (Below.refl _ _).alloc (Nat.le_refl _) _⟩
  case round =>
    clear hmk
    obtain ⟨i, hi, rfl, hbx, hbe⟩ := hrel
    have HBx := Lib.hid hbx
    have HBe := Lib.hid hbe
    clear hbx hbe
    by_cases hlt : i < n
    · have c3 := (HBx.out.cell i).trans (vec_get _ hlt)
      have c4 := HBx.out.open_ i
      go_wp2_with fail
      go_roundw
      case rel => exact ⟨i + 1, by omega, by go_num, idf_step n i ▸ HBx.out.setv i _, HBe.out.setCell (by simp) _⟩
      case measure => simp [intOf]; omega
    · have e : i = n := by omega
      subst e
      go_wp2_with fail
      go_ret2
      exact ⟨_, _, rfl, (vec_congr (n := i) (f := idf i) (g := zf fun i => i) (fun j hj => by simp [idf, zf, hj]) ▸ HBx.out : Box wr w.heap.size (vec i _) 3).q, HBe.out⟩

end Go.Proofs.YtgppdbiimlbpjaaDoor
