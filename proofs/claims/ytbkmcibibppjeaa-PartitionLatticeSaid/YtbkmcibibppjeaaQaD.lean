/- The four laws that hold the package against the specification. -/
import Derived.Test.YtbkmcibibppjeaaQaC
import Derived.WalkKit
import Derived.WalkSpells
import Derived.WalkLawsBesides
import Derived.Handy
import Derived.Deep.QuietTactic
import Derived.BigQuiet
import Derived.Outline
import Derived.Laws.BitsAllLaws
import Derived.IntWalk
import Derived.Lib.SmallJoins
import Derived.Lib.Hide
import Derived.Deep.DeepCutAuto
import Derived.LoopTactic
import Derived.Deep.RegionWith
namespace Go.Proofs.Ytbkmcibibppjeaa
set_option linter.unusedVariables false
set_option linter.unusedSimpArgs false
open Go.RowKit Part
theorem sameints_b (n : Nat) (hn : n ≤ 1000000) (f : Nat → Int) (o p : Option Addr) (cap cap' : Nat) (w : World) (hL : Lz w o n f) (hL' : Lz w p n f) : Calls Try.prog 24 #[.slice o n cap, .slice p n cap'] w fun e w' => e = .returned (.bool true) ∧ Below w.heap.size w w' :=
  (sameints_ok n hn f o p cap cap' w hL hL').mono fun e w' ⟨h1, d, h2⟩ => ⟨h1, by subst h2; exact below_dn d (Below.refl _ _)⟩
theorem samelists_b (k : Nat) (hk : k ≤ 65536) (L : Nat → List Int) (hl : ∀ c, c < k → (L c).length ≤ 1000000) (o p : Option Addr) (cap cap' : Nat) (w : World) (hL : Ls w o k L) (hL' : Ls w p k L) : Calls Try.prog 19 #[.slice o k cap, .slice p k cap'] w fun e w' => e = .returned (.bool true) ∧ Below w.heap.size w w' :=
  (samelists_ok k hk L hl o p cap cap' w hL hL').mono fun e w' ⟨h1, d, h2⟩ => ⟨h1, by subst h2; exact below_dn d (Below.refl _ _)⟩

set_option maxRecDepth 100000 in
set_option maxHeartbeats 16000000 in
theorem checks_ok (n : Nat) (f : Nat → Int) (o : Option Addr) (cap : Nat) (w : World) (hLn : Lz w o n f) : Calls Try.prog 3 #[.slice o n cap] w fun e w' => e = .returned (.bool true) ∧ Below w.heap.size w w' := by
  have Ln := Lib.hid hLn
  have B := Lib.hid (Below.refl w.heap.size w)
  have hx : Below w.heap.size w (w.alloc (.cells #[.slice o n cap] 22)) := (Below.refl _ _).alloc (Nat.le_refl _) _
  have HFew := few_any 1 (by decide) (fun _ => o) (fun _ => n) (fun _ => cap) w.heap.size 0 1 (w.alloc (.cells #[.slice o n cap] 22)) (by
    intro c hc
    obtain rfl : c = 0 := by omega
    exact World.cell?_alloc_mark _ _ _ (0, 0) 0)
  rw [allb_one] at HFew
  obtain ⟨r, hr⟩ : ∃ r, fewb n = r := ⟨_, rfl⟩
  rw [hr] at HFew
  have HFW := Lib.hid HFew
  clear HFew hLn
  replace Ln := Lib.hid (Ln.out.below hx)
  replace B := Lib.hid (B.out.trans hx)
  clear hx
  cases r with
  | false =>
    clear hr
    go_enter Try.func3, Try.ntmps3
    go_wp2_with fail
    refine HFW.out.mono ?_
    rintro e w' ⟨rfl, rfl⟩
    go_wp2_with fail
    refine (awake_ok _).mono ?_
    rintro e W1 ⟨rfl, hb⟩
    replace B := Lib.hid (B.out.trans (Joins.below_le hb B.out.size))
    clear hb 
    go_wp2_with fail
    go_ret
    exact ⟨rfl, B.out⟩
  | true =>
    clear hr
    obtain ⟨k, Lc, c1, hk, hlen, h1, h2⟩ := classes_two n f
    obtain ⟨a2, c2, h3, h4⟩ := count_two n f
    have Hh1 := Lib.hid h1
    have Hh2 := Lib.hid h2
    have Hh3 := Lib.hid h3
    have Hh4 := Lib.hid h4
    have Hhlen := Lib.hid hlen
    clear h1 h2 h3 h4 hlen
    have H5 := Lib.hid (fun o cap W (h : Lz W o n f) => check_any n f o cap W h)
    have H6 := Lib.hid (fun o cap W (h : Lz W o n f) => rcheck_any n f o cap W h)
    obtain ⟨r5, hr5⟩ : ∃ r5, pcd n f = r5 := ⟨_, rfl⟩
    rw [hr5] at H5 H6
    clear hr5
    go_enter Try.func3, Try.ntmps3
    go_wp2_with fail
    refine HFW.out.mono ?_
    rintro e w' ⟨rfl, rfl⟩
    go_wp2_with fail
    refine (Hh1.out _ _ _ Ln.out).mono ?_
    rintro e W1 ⟨o1, p1, rfl, hl, hb⟩
    replace Ln := Lib.hid (Ln.out.below hb)
    replace B := Lib.hid (B.out.trans (Joins.below_le hb B.out.size))
    have A1 := Lib.hid hl
    clear hb hl
    go_wp2_with fail
    refine (Hh2.out _ _ _ Ln.out).mono ?_
    rintro e W2 ⟨o2, p2, rfl, hl, hb⟩
    replace Ln := Lib.hid (Ln.out.below hb)
    replace A1 := Lib.hid (A1.out.below hb)
    replace B := Lib.hid (B.out.trans (Joins.below_le hb B.out.size))
    have A2 := Lib.hid hl
    clear hb hl
    go_wp2_with fail
    refine (Hh3.out _ _ _ Ln.out).mono ?_
    rintro e w' ⟨rfl, rfl⟩
    go_wp2_with fail
    refine (Hh4.out _ _ _ Ln.out).mono ?_
    rintro e w' ⟨rfl, rfl⟩
    go_wp2_with fail
    refine (H5.out _ _ _ Ln.out).mono ?_
    rintro e w' ⟨rfl, rfl⟩
    go_wp2_with fail
    refine (H6.out _ _ _ Ln.out).mono ?_
    rintro e w' ⟨rfl, rfl⟩
    clear Ln
    go_wp2_with fail
    refine (samelists_b k hk Lc Hhlen.out _ _ _ _ _ A1.out A2.out).mono ?_
    rintro e W3 ⟨rfl, hb⟩
    replace B := Lib.hid (B.out.trans (Joins.below_le hb B.out.size))
    clear hb 
    clear A1 A2
    go_wp2_with fail
    refine (awake_ok _).mono ?_
    rintro e W4 ⟨rfl, hb⟩
    replace B := Lib.hid (B.out.trans (Joins.below_le hb B.out.size))
    clear hb 
    go_wp2_with fail
    go_ret
    exact ⟨rfl, B.out⟩

set_option maxRecDepth 100000 in
set_option maxHeartbeats 16000000 in
theorem forms_ok (n m : Nat) (f l : Nat → Int) (o p : Option Addr) (cap cap' : Nat) (x y : Int) (hf : ∀ i, i < n → In64 (f i)) (w : World) (hLn : Lz w o n f) (hLm : Lz w p m l) : Calls Try.prog 4 #[.slice o n cap, .slice p m cap', .agg #[.int .i64 x, .int .i64 y]] w fun e w' => e = .returned (.bool true) ∧ Below w.heap.size w w' := by
  have Ln := Lib.hid hLn
  have Lm := Lib.hid hLm
  have B := Lib.hid (Below.refl w.heap.size w)
  have hx : Below w.heap.size w ((w.alloc (.cells #[.int .i64 x, .int .i64 y] 39)).alloc (.cells #[.slice o n cap, .slice p m cap'] 22)) := ((Below.refl _ _).alloc (Nat.le_refl _) _).alloc (by simp) _
  have HFew := few_any 2 (by decide) (fun c => if c = 0 then o else p) (fun c => if c = 0 then n else m) (fun c => if c = 0 then cap else cap') (w.alloc (.cells #[.int .i64 x, .int .i64 y] 39)).heap.size 0 2 ((w.alloc (.cells #[.int .i64 x, .int .i64 y] 39)).alloc (.cells #[.slice o n cap, .slice p m cap'] 22)) (by
    intro c hc
    obtain rfl | rfl : c = 0 ∨ c = 1 := by omega
    · exact World.cell?_alloc_mark _ _ _ (0, 0) 0
    · exact World.cell?_alloc_mark _ _ _ (0, 0) 1)
  rw [allb_succ, allb_one] at HFew
  simp only [if_true, if_neg Nat.one_ne_zero] at HFew
  rw [World.size_alloc] at HFew
  obtain ⟨r, hr⟩ : ∃ r, (fewb n && fewb m) = r := ⟨_, rfl⟩
  rw [hr] at HFew
  have HFW := Lib.hid HFew
  clear HFew hLn hLm
  replace Ln := Lib.hid (Ln.out.below hx)
  replace Lm := Lib.hid (Lm.out.below hx)
  replace B := Lib.hid (B.out.trans hx)
  clear hx
  cases r with
  | false =>
    clear hr
    go_enter Try.func4, Try.ntmps4
    go_wp2_with fail
    refine HFW.out.mono ?_
    rintro e w' ⟨rfl, rfl⟩
    go_wp2_with fail
    refine (awake_ok _).mono ?_
    rintro e W1 ⟨rfl, hb⟩
    replace B := Lib.hid (B.out.trans (Joins.below_le hb B.out.size))
    clear hb 
    go_wp2_with fail
    go_ret
    exact ⟨rfl, B.out⟩
  | true =>
    clear hr
    obtain ⟨k, g, c1, hk, h1, h2⟩ := of_two n f (fun _ => hf)
    obtain ⟨a2, c2, h3, h4⟩ := same_two m l x y
    have Hh1 := Lib.hid h1
    have Hh2 := Lib.hid h2
    have Hh3 := Lib.hid h3
    have Hh4 := Lib.hid h4
    have Hhf := Lib.hid hf
    clear h1 h2 h3 h4 hf
    have hk2 : k ≤ 1000000 := by omega
    have hcx : ∀ V, Below (w.heap.size + 1) ((w.alloc (.cells #[.int .i64 x, .int .i64 y] 39)).alloc (.cells #[.slice o n cap, .slice p m cap'] 22)) V → V.cell? ⟨w.heap.size, 0, none⟩ = some (.int .i64 x) ∧ V.cell? ⟨w.heap.size, 1, none⟩ = some (.int .i64 y) := fun V hV => ⟨(hV.cell (p := ⟨w.heap.size, 0, none⟩) (by simp)).trans ((World.cell?_alloc_lt _ _ _ (by simp)).trans (World.cell?_alloc_mark w _ _ (0, 0) 0)), (hV.cell (p := ⟨w.heap.size, 1, none⟩) (by simp)).trans ((World.cell?_alloc_lt _ _ _ (by simp)).trans (World.cell?_alloc_mark w _ _ (0, 0) 1))⟩
    have HCx := Lib.hid hcx
    have B2 := Lib.hid (Below.refl (w.heap.size + 1) ((w.alloc (.cells #[.int .i64 x, .int .i64 y] 39)).alloc (.cells #[.slice o n cap, .slice p m cap'] 22)))
    have hsz : w.heap.size + 1 ≤ ((w.alloc (.cells #[.int .i64 x, .int .i64 y] 39)).alloc (.cells #[.slice o n cap, .slice p m cap'] 22)).heap.size := by simp
    have HSz := Lib.hid hsz
    clear hcx hsz
    go_enter Try.func4, Try.ntmps4
    go_wp2_with fail
    refine HFW.out.mono ?_
    rintro e w' ⟨rfl, rfl⟩
    go_wp2_with fail
    refine (Hh1.out _ _ _ Ln.out).mono ?_
    rintro e W1 ⟨o1, p1, rfl, hl, hb⟩
    replace Ln := Lib.hid (Ln.out.below hb)
    replace Lm := Lib.hid (Lm.out.below hb)
    replace B := Lib.hid (B.out.trans (Joins.below_le hb B.out.size))
    replace B2 := Lib.hid (B2.out.trans (Joins.below_le hb (Nat.le_trans HSz.out B2.out.size)))
    have A1 := Lib.hid hl
    clear hb hl
    go_wp2_with fail
    refine (Hh2.out _ _ _ Ln.out).mono ?_
    rintro e W2 ⟨o2, p2, rfl, hl, hb⟩
    replace Ln := Lib.hid (Ln.out.below hb)
    replace Lm := Lib.hid (Lm.out.below hb)
    replace A1 := Lib.hid (A1.out.below hb)
    replace B := Lib.hid (B.out.trans (Joins.below_le hb B.out.size))
    replace B2 := Lib.hid (B2.out.trans (Joins.below_le hb (Nat.le_trans HSz.out B2.out.size)))
    have A2 := Lib.hid hl
    clear hb hl
    obtain ⟨q1, q2⟩ := HCx.out _ B2.out
    go_wp2_with fail
    refine (Hh3.out _ _ _ Lm.out).mono ?_
    rintro e W3 ⟨rfl, hb⟩
    replace Ln := Lib.hid (Ln.out.below hb)
    replace Lm := Lib.hid (Lm.out.below hb)
    replace A1 := Lib.hid (A1.out.below hb)
    replace A2 := Lib.hid (A2.out.below hb)
    replace B := Lib.hid (B.out.trans (Joins.below_le hb B.out.size))
    replace B2 := Lib.hid (B2.out.trans (Joins.below_le hb (Nat.le_trans HSz.out B2.out.size)))
    clear hb 
    clear q1 q2
    obtain ⟨q1, q2⟩ := HCx.out _ B2.out
    go_wp2_with fail
    refine (Hh4.out _ _ _ Lm.out).mono ?_
    rintro e W4 ⟨rfl, hb⟩
    replace Ln := Lib.hid (Ln.out.below hb)
    replace Lm := Lib.hid (Lm.out.below hb)
    replace A1 := Lib.hid (A1.out.below hb)
    replace A2 := Lib.hid (A2.out.below hb)
    replace B := Lib.hid (B.out.trans (Joins.below_le hb B.out.size))
    replace B2 := Lib.hid (B2.out.trans (Joins.below_le hb (Nat.le_trans HSz.out B2.out.size)))
    clear hb 
    clear q1 q2
    clear Ln Lm
    go_wp2_with fail
    refine (sameints_b k hk2 g _ _ _ _ _ A1.out A2.out).mono ?_
    rintro e W5 ⟨rfl, hb⟩
    replace B := Lib.hid (B.out.trans (Joins.below_le hb B.out.size))
    clear hb 
    clear A1 A2 B2
    go_wp2_with fail
    refine (awake_ok _).mono ?_
    rintro e W6 ⟨rfl, hb⟩
    replace B := Lib.hid (B.out.trans (Joins.below_le hb B.out.size))
    clear hb 
    go_wp2_with fail
    go_ret
    exact ⟨rfl, B.out⟩

set_option maxRecDepth 100000 in
set_option maxHeartbeats 16000000 in
theorem combines_ok (n m : Nat) (f g : Nat → Int) (o p : Option Addr) (cap cap' : Nat) (w : World) (hLn : Lz w o n f) (hLm : Lz w p m g) : Calls Try.prog 5 #[.slice o n cap, .slice p m cap'] w fun e w' => e = .returned (.bool true) ∧ Below w.heap.size w w' := by
  have Ln := Lib.hid hLn
  have Lm := Lib.hid hLm
  have B := Lib.hid (Below.refl w.heap.size w)
  have hx : Below w.heap.size w (w.alloc (.cells #[.slice o n cap, .slice p m cap'] 22)) := (Below.refl _ _).alloc (Nat.le_refl _) _
  have HFew := few_any 2 (by decide) (fun c => if c = 0 then o else p) (fun c => if c = 0 then n else m) (fun c => if c = 0 then cap else cap') w.heap.size 0 2 (w.alloc (.cells #[.slice o n cap, .slice p m cap'] 22)) (by
    intro c hc
    obtain rfl | rfl : c = 0 ∨ c = 1 := by omega
    · exact World.cell?_alloc_mark _ _ _ (0, 0) 0
    · exact World.cell?_alloc_mark _ _ _ (0, 0) 1)
  rw [allb_succ, allb_one] at HFew
  simp only [if_true, if_neg Nat.one_ne_zero] at HFew
  obtain ⟨r, hr⟩ : ∃ r, (fewb n && fewb m) = r := ⟨_, rfl⟩
  rw [hr] at HFew
  have HFW := Lib.hid HFew
  clear HFew hLn hLm
  replace Ln := Lib.hid (Ln.out.below hx)
  replace Lm := Lib.hid (Lm.out.below hx)
  replace B := Lib.hid (B.out.trans hx)
  clear hx
  cases r with
  | false =>
    clear hr
    go_enter Try.func5, Try.ntmps5
    go_wp2_with fail
    refine HFW.out.mono ?_
    rintro e w' ⟨rfl, rfl⟩
    go_wp2_with fail
    refine (awake_ok _).mono ?_
    rintro e W1 ⟨rfl, hb⟩
    replace B := Lib.hid (B.out.trans (Joins.below_le hb B.out.size))
    clear hb 
    go_wp2_with fail
    go_ret
    exact ⟨rfl, B.out⟩
  | true =>
    clear hr
    obtain ⟨a1, c1, h1, h2⟩ := finer_two n m f g
    obtain ⟨k2, x2, c2, hk2, h3, h4⟩ := meet_two n m f g
    obtain ⟨k3, x3, c3, hk3, h5, h6⟩ := join_two n m f g
    have Hh1 := Lib.hid h1
    have Hh2 := Lib.hid h2
    have Hh3 := Lib.hid h3
    have Hh4 := Lib.hid h4
    have Hh5 := Lib.hid h5
    have Hh6 := Lib.hid h6
    clear h1 h2 h3 h4 h5 h6
    replace hk2 : k2 ≤ 1000000 := by omega
    replace hk3 : k3 ≤ 1000000 := by omega
    go_enter Try.func5, Try.ntmps5
    go_wp2_with fail
    refine HFW.out.mono ?_
    rintro e w' ⟨rfl, rfl⟩
    go_wp2_with fail
    refine (Hh1.out _ _ _ _ _ Ln.out Lm.out).mono ?_
    rintro e W1 ⟨rfl, hb⟩
    replace Ln := Lib.hid (Ln.out.below hb)
    replace Lm := Lib.hid (Lm.out.below hb)
    replace B := Lib.hid (B.out.trans (Joins.below_le hb B.out.size))
    clear hb 
    go_wp2_with fail
    refine (Hh2.out _ _ _ _ _ Ln.out Lm.out).mono ?_
    rintro e W2 ⟨rfl, hb⟩
    replace Ln := Lib.hid (Ln.out.below hb)
    replace Lm := Lib.hid (Lm.out.below hb)
    replace B := Lib.hid (B.out.trans (Joins.below_le hb B.out.size))
    clear hb 
    go_wp2_with fail
    refine (Hh3.out _ _ _ _ _ Ln.out Lm.out).mono ?_
    rintro e W3 ⟨o3, p3, rfl, hl, hb⟩
    replace Ln := Lib.hid (Ln.out.below hb)
    replace Lm := Lib.hid (Lm.out.below hb)
    replace B := Lib.hid (B.out.trans (Joins.below_le hb B.out.size))
    have A3 := Lib.hid hl
    clear hb hl
    go_wp2_with fail
    refine (Hh4.out _ _ _ _ _ Ln.out Lm.out).mono ?_
    rintro e W4 ⟨o4, p4, rfl, hl, hb⟩
    replace Ln := Lib.hid (Ln.out.below hb)
    replace Lm := Lib.hid (Lm.out.below hb)
    replace A3 := Lib.hid (A3.out.below hb)
    replace B := Lib.hid (B.out.trans (Joins.below_le hb B.out.size))
    have A4 := Lib.hid hl
    clear hb hl
    go_wp2_with fail
    refine (Hh5.out _ _ _ _ _ Ln.out Lm.out).mono ?_
    rintro e W5 ⟨o5, p5, rfl, hl, hb⟩
    replace Ln := Lib.hid (Ln.out.below hb)
    replace Lm := Lib.hid (Lm.out.below hb)
    replace A3 := Lib.hid (A3.out.below hb)
    replace A4 := Lib.hid (A4.out.below hb)
    replace B := Lib.hid (B.out.trans (Joins.below_le hb B.out.size))
    have A5 := Lib.hid hl
    clear hb hl
    go_wp2_with fail
    refine (Hh6.out _ _ _ _ _ Ln.out Lm.out).mono ?_
    rintro e W6 ⟨o6, p6, rfl, hl, hb⟩
    replace Ln := Lib.hid (Ln.out.below hb)
    replace Lm := Lib.hid (Lm.out.below hb)
    replace A3 := Lib.hid (A3.out.below hb)
    replace A4 := Lib.hid (A4.out.below hb)
    replace A5 := Lib.hid (A5.out.below hb)
    replace B := Lib.hid (B.out.trans (Joins.below_le hb B.out.size))
    have A6 := Lib.hid hl
    clear hb hl
    clear Ln Lm
    go_wp2_with fail
    refine (sameints_b k2 hk2 x2 _ _ _ _ _ A3.out A4.out).mono ?_
    rintro e W7 ⟨rfl, hb⟩
    replace A5 := Lib.hid (A5.out.below hb)
    replace A6 := Lib.hid (A6.out.below hb)
    replace B := Lib.hid (B.out.trans (Joins.below_le hb B.out.size))
    clear hb 
    clear A3 A4
    go_wp2_with fail
    refine (sameints_b k3 hk3 x3 _ _ _ _ _ A5.out A6.out).mono ?_
    rintro e W8 ⟨rfl, hb⟩
    replace B := Lib.hid (B.out.trans (Joins.below_le hb B.out.size))
    clear hb 
    clear A5 A6
    go_wp2_with fail
    refine (awake_ok _).mono ?_
    rintro e W9 ⟨rfl, hb⟩
    replace B := Lib.hid (B.out.trans (Joins.below_le hb B.out.size))
    clear hb 
    go_wp2_with fail
    go_ret
    exact ⟨rfl, B.out⟩

set_option maxRecDepth 100000 in
set_option maxHeartbeats 16000000 in
theorem refines_ok (n m : Nat) (f g : Nat → Int) (hg : ∀ i, i < m → In64 (g i)) (o p : Option Addr) (cap cap' : Nat) (w : World) (hLn : Lz w o n f) (hLm : Lz w p m g) : Calls Try.prog 6 #[.slice o n cap, .slice p m cap'] w fun e w' => e = .returned (.bool true) ∧ Below w.heap.size w w' := by
  have Ln := Lib.hid hLn
  have Lm := Lib.hid hLm
  have B := Lib.hid (Below.refl w.heap.size w)
  have hx : Below w.heap.size w (w.alloc (.cells #[.slice o n cap, .slice p m cap'] 22)) := (Below.refl _ _).alloc (Nat.le_refl _) _
  have HFew := few_any 2 (by decide) (fun c => if c = 0 then o else p) (fun c => if c = 0 then n else m) (fun c => if c = 0 then cap else cap') w.heap.size 0 2 (w.alloc (.cells #[.slice o n cap, .slice p m cap'] 22)) (by
    intro c hc
    obtain rfl | rfl : c = 0 ∨ c = 1 := by omega
    · exact World.cell?_alloc_mark _ _ _ (0, 0) 0
    · exact World.cell?_alloc_mark _ _ _ (0, 0) 1)
  rw [allb_succ, allb_one] at HFew
  simp only [if_true, if_neg Nat.one_ne_zero] at HFew
  obtain ⟨r, hr⟩ : ∃ r, (fewb n && fewb m) = r := ⟨_, rfl⟩
  rw [hr] at HFew
  have HFW := Lib.hid HFew
  clear HFew hLn hLm
  replace Ln := Lib.hid (Ln.out.below hx)
  replace Lm := Lib.hid (Lm.out.below hx)
  replace B := Lib.hid (B.out.trans hx)
  clear hx
  cases r with
  | false =>
    clear hr
    go_enter Try.func6, Try.ntmps6
    go_wp2_with fail
    refine HFW.out.mono ?_
    rintro e w' ⟨rfl, rfl⟩
    go_wp2_with fail
    refine (awake_ok _).mono ?_
    rintro e W1 ⟨rfl, hb⟩
    replace B := Lib.hid (B.out.trans (Joins.below_le hb B.out.size))
    clear hb 
    go_wp2_with fail
    go_ret
    exact ⟨rfl, B.out⟩
  | true =>
    clear hr
    obtain ⟨k2, x2, c2, hk2, h3, h4⟩ := refine_two n m f g (fun _ => hg)
    have Hh3 := Lib.hid h3
    have Hh4 := Lib.hid h4
    have Hhg := Lib.hid hg
    clear h3 h4 hg
    replace hk2 : k2 ≤ 1000000 := by omega
    go_enter Try.func6, Try.ntmps6
    go_wp2_with fail
    refine HFW.out.mono ?_
    rintro e w' ⟨rfl, rfl⟩
    go_wp2_with fail
    refine (Hh3.out _ _ _ _ _ Ln.out Lm.out).mono ?_
    rintro e W1 ⟨o3, p3, rfl, hl, hb⟩
    replace Ln := Lib.hid (Ln.out.below hb)
    replace Lm := Lib.hid (Lm.out.below hb)
    replace B := Lib.hid (B.out.trans (Joins.below_le hb B.out.size))
    have A3 := Lib.hid hl
    clear hb hl
    go_wp2_with fail
    refine (Hh4.out _ _ _ _ _ Ln.out Lm.out).mono ?_
    rintro e W2 ⟨o4, p4, rfl, hl, hb⟩
    replace Ln := Lib.hid (Ln.out.below hb)
    replace Lm := Lib.hid (Lm.out.below hb)
    replace A3 := Lib.hid (A3.out.below hb)
    replace B := Lib.hid (B.out.trans (Joins.below_le hb B.out.size))
    have A4 := Lib.hid hl
    clear hb hl
    clear Ln Lm
    go_wp2_with fail
    refine (sameints_b k2 hk2 x2 _ _ _ _ _ A3.out A4.out).mono ?_
    rintro e W3 ⟨rfl, hb⟩
    replace B := Lib.hid (B.out.trans (Joins.below_le hb B.out.size))
    clear hb 
    clear A3 A4
    go_wp2_with fail
    refine (awake_ok _).mono ?_
    rintro e W4 ⟨rfl, hb⟩
    replace B := Lib.hid (B.out.trans (Joins.below_le hb B.out.size))
    clear hb 
    go_wp2_with fail
    go_ret
    exact ⟨rfl, B.out⟩

end Go.Proofs.Ytbkmcibibppjeaa
