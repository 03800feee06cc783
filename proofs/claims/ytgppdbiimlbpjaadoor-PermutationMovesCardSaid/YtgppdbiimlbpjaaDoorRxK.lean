/- Format and Parse, both sides; PermutationTexts. -/
import Derived.Test.YtgppdbiimlbpjaaDoorRxJ
import Derived.WalkKit
import Derived.WalkSpells
import Derived.WalkLawsBesides
import Derived.Handy
import Derived.Deep.QuietTactic
import Derived.BigQuiet
import Derived.Outline
import Derived.Laws.BitsAllLaws
import Derived.IntWalk
import Derived.Lib.SmallJoins
import Derived.Lib.Hide
import Derived.Deep.DeepCutAuto
import Derived.LoopTactic
import Derived.Deep.RegionWith
import Derived.Laws.CopyOwn
import Derived.Maps.OwnOps
import Derived.Maps.OwnSet
import Derived.Laws.OwnMore
import Derived.Maps.AppendAt
import Derived.Test.YtgppdbiimlbpjaaDoorShelF
import Derived.RangeFuncNested
import Derived.RangeFuncBound
import Derived.RangeFuncCalls
import Derived.RangeFuncLeaves
import Derived.RangeFuncBox
import Derived.RangeFuncFrom
import Derived.Shelf.Abstract
import Derived.Shelf.RegionOpen
import Derived.OwnWalkIn
import Derived.TacticsInMore
import Derived.LoopNIn
import Derived.LoopIn
namespace Go.Proofs.YtgppdbiimlbpjaaDoor
set_option linter.unusedVariables false
set_option linter.unusedSimpArgs false
open Go.RowKit


theorem toList_ne {a b : ByteArray} (h : a ≠ b) : (a.toList == b.toList) = false := by
  rw [beq_eq_false_iff_ne]
  intro e
  rw [ByteArray.toList_eq, ByteArray.toList_eq] at e
  apply h
  cases a; cases b
  simp at e
  rw [e]
theorem rfmt_bad (n : Nat) (x : Nat → Int) (c : Int) (hc : pcode n x = c) (h0 : c ≠ 0) (o : Option Addr) (cap : Nat) (w : World) (hL : Lq w o n cap x) : Calls Tryd.prog 37 #[.slice o n cap] w fun e w' => e = .returned (.tuple #[.string ⟨#[]⟩, .int .i64 c]) ∧ Below w.heap.size w w' := by
  have H := Lib.hid (rcheck_any n x o cap w hL.1)
  rw [hc] at H
  have h1 : (c != 0) = true := by rw [bne_iff_ne]; exact h0
  clear hL hc h0
  go_enter Tryd.func37, Tryd.ntmps37
  go_wp2_with fail
  refine H.out.mono ?_
  rintro e w' ⟨rfl, hb⟩
  have HB := Lib.hid hb
  clear hb
  go_wp2_with fail
  go_ret2
  exact ⟨rfl, HB.out⟩
theorem rfmt_good (n : Nat) (h1 : 1 ≤ n) (h5 : n ≤ 5) (l : List Nat) (hl : l ∈ pl n) (o : Option Addr) (cap : Nat) (w : World) (hL : Lq w o n cap (zf (fun_ l))) : Calls Tryd.prog 37 #[.slice o n cap] w fun e w' => e = .returned (.tuple #[.string (ptx n (fun_ l)), .int .i64 0]) ∧ Below w.heap.size w w' := by
  have H := Lib.hid (rcheck_any n _ o cap w hL.1)
  rw [good_code (pl_good h1 h5 hl).2] at H
  have HT := Lib.hid (fun W (h : Lz W o n (zf (fun_ l))) => text_ok n h1 h5 l hl o cap W h)
  have HL := Lib.hid hL.1
  clear hL
  go_enter Tryd.func37, Tryd.ntmps37
  go_wp2_with fail
  refine H.out.mono ?_
  rintro e w' ⟨rfl, hb⟩
  have HB := Lib.hid hb
  clear hb
  go_wp2_with fail
  refine (HT.out _ (HL.out.below HB.out)).mono ?_
  rintro e w' ⟨rfl, rfl⟩
  go_wp2_with fail
  go_ret2
  exact ⟨rfl, HB.out⟩
theorem fmt_two (n : Nat) (x : Nat → Int) : ∃ (t : ByteArray) (c : Int),
    (∀ o cap w, Lq w o n cap x → Calls Tryd.prog 36 #[.slice o n cap] w fun e w' => e = .returned (.tuple #[.string t, .int .i64 c]) ∧ Below w.heap.size w w') ∧
    (∀ o cap w, Lq w o n cap x → Calls Tryd.prog 37 #[.slice o n cap] w fun e w' => e = .returned (.tuple #[.string t, .int .i64 c]) ∧ Below w.heap.size w w') := by
  by_cases h0 : pcode n x = 0
  · obtain ⟨a, ha, he⟩ := good_of h0
    have hm := lo_mem ha
    have e2 : ∀ i, i < n → x i = zf (fun_ (lo n a)) i := fun i hi => by rw [he i hi]; unfold zf; rw [lo_at hi]
    exact ⟨_, 0, fun o cap w h => callsIn_wide.1 (fmt_in n (fun_ (lo n a)) (pl_good ha.lo ha.hi hm).2 o cap w (h.as e2)), fun o cap w h => rfmt_good n ha.lo ha.hi _ hm o cap w (h.as e2)⟩
  · exact ⟨⟨#[]⟩, _, fun o cap w h => fmt_bad n x _ rfl h0 o cap w h, fun o cap w h => rfmt_bad n x _ rfl h0 o cap w h⟩
theorem first_of (Q : Nat → Prop) : ∀ m, (∃ k, k < m ∧ Q k) → ∃ k, k < m ∧ Q k ∧ ∀ d, d < k → ¬ Q d
  | 0, ⟨k, hk, _⟩ => absurd hk (Nat.not_lt_zero _)
  | m + 1, ⟨k, hk, hq⟩ => by
    by_cases h : ∃ k, k < m ∧ Q k
    · obtain ⟨k2, h1, h2, h3⟩ := first_of Q m h
      exact ⟨k2, by omega, h2, h3⟩
    · have e : k = m := by
        by_cases e : k < m
        · exact absurd ⟨k, e, hq⟩ h
        · omega
      subst e
      exact ⟨k, by omega, hq, fun d hd hqd => h ⟨d, hd, hqd⟩⟩
theorem par_range (z : Int) (h : z < 1 ∨ 5 < z) (s : ByteArray) (w : World) : Calls Tryd.prog 38 #[.int .i64 z, .string s] w (QRes 0 (fun _ => 0) 2 w) := by
  have H := Lib.hid (all_bad z h w)
  clear h
  go_enter Tryd.func38, Tryd.ntmps38
  go_wp2_with fail
  refine H.out.mono ?_
  rintro e w1 ⟨o1, c1, rfl, hq, hb⟩
  have HB := Lib.hid hb
  clear hq hb
  go_wp2_with fail
  go_ret2
  exact ⟨_, _, rfl, ⟨Lz.nil, by omega⟩, HB.out⟩
theorem rpar_range (z : Int) (h : z < 1 ∨ 5 < z) (s : ByteArray) (w : World) : Calls Tryd.prog 39 #[.int .i64 z, .string s] w (QRes 0 (fun _ => 0) 2 w) := by
  rcases h with h | h
  · go_enter Tryd.func39, Tryd.ntmps39
    go_wp2_with fail
    go_ret2
    exact ⟨_, _, rfl, ⟨Lz.nil, by omega⟩, Below.refl _ _⟩
  · go_enter Tryd.func39, Tryd.ntmps39
    go_wp2_with fail
    go_ret2
    exact ⟨_, _, rfl, ⟨Lz.nil, by omega⟩, Below.refl _ _⟩
theorem par_long (n : Nat) (h1 : 1 ≤ n) (h5 : n ≤ 5) (s : ByteArray) (hs : 24 < s.size) (w : World) : Calls Tryd.prog 38 #[.int .i64 (n : Int), .string s] w (QRes 0 (fun _ => 0) 13 w) := by
  have H := Lib.hid (all_good n h1 h5 w)
  have hs1 : (24 : Int) < (s.size : Int) := by omega
  go_enter Tryd.func38, Tryd.ntmps38
  go_wp2_with fail
  refine H.out.mono ?_
  rintro e w1 ⟨o1, c1, rfl, hq, hb⟩
  have HB := Lib.hid hb
  clear hq hb
  go_wp2_with fail
  go_ret2
  exact ⟨_, _, rfl, ⟨Lz.nil, by omega⟩, HB.out⟩
theorem rpar_long (n : Nat) (h1 : 1 ≤ n) (h5 : n ≤ 5) (s : ByteArray) (hs : 24 < s.size) (w : World) : Calls Tryd.prog 39 #[.int .i64 (n : Int), .string s] w (QRes 0 (fun _ => 0) 13 w) := by
  have hs1 : (24 : Int) < (s.size : Int) := by omega
  have g1 : ¬ (n : Int) < 1 := by omega
  have g2 : ¬ 5 < (n : Int) := by omega
  go_enter Tryd.func39, Tryd.ntmps39
  go_wp2_with fail
  go_ret2
  exact ⟨_, _, rfl, ⟨Lz.nil, by omega⟩, Below.refl _ _⟩
/-- What Parse gives. -/
def ParRes (n k0 N : Nat) (g : Nat → Int) (w : World) (e : Ending) (w' : World) : Prop := (k0 < N → QRes n g 0 w e w') ∧ (¬ k0 < N → QRes 0 (fun _ => 0) 4 w e w')

set_option maxRecDepth 100000 in
set_option maxHeartbeats 4000000 in
theorem par_good (n : Nat) (h1 : 1 ≤ n) (h5 : n ≤ 5) (s : ByteArray) (hs : s.size ≤ 24) (k0 : Nat) (hk0 : k0 ≤ (pl n).length) (hno : ∀ d, d < k0 → ptx n (fun_ ((pl n).getD d [])) ≠ s) (hyes : k0 < (pl n).length → ptx n (fun_ ((pl n).getD k0 [])) = s) (w : World) :
    Calls Tryd.prog 38 #[.int .i64 (n : Int), .string s] w (ParRes n k0 (pl n).length (zf (fun_ ((pl n).getD k0 []))) w) := by
  have H := Lib.hid (all_good n h1 h5 w)
  have hs1 : ¬ (24 : Int) < (s.size : Int) := by omega
  have HT := Lib.hid (fun c (hc : c < (pl n).length) o cap W (h : Lq W o n cap (zf (fun_ ((pl n).getD c [])))) => callsIn_wide.1 (fmt_in n (fun_ ((pl n).getD c [])) (pl_good h1 h5 (by rw [List.getD_eq_getElem?_getD, List.getElem?_eq_getElem hc]; exact List.getElem_mem _)).2 o cap W h))
  have h120 : (pl n).length ≤ 120 := (pl_nodup ⟨n, by omega⟩).2
  have HNo := Lib.hid hno
  have HYes := Lib.hid hyes
  generalize pl n = PL at *
  obtain ⟨N, hN⟩ : ∃ N, PL.length = N := ⟨_, rfl⟩
  rw [hN] at H HYes HT hk0 h120 ⊢
  have HN := Lib.hid hN
  clear hno hyes hN hs
  go_enter Tryd.func38, Tryd.ntmps38
  go_wp2_with fail
  refine H.out.mono ?_
  rintro e w1 ⟨o1, c1, rfl, hl, hb⟩
  have HL := Lib.hid hl
  have HB := Lib.hid hb
  clear hl hb H
  go_wp2_with fail
  go_loopw [25] (fun j wr => ∃ c : Nat, c ≤ N ∧ c ≤ k0 ∧ j = .int .i64 (c : Int) ∧ Below w1.heap.size w1 wr) (fun j _ => N - (intOf j).toNat)
  case atStart => exact ⟨0, by omega, by omega, by first | trivial | rfl, Below.refl _ _⟩
  case round =>
    obtain ⟨c, hc, hck, rfl, hbe⟩ := hrel
    by_cases hlt : c < N
    · have hc1 : (c : Int) < (N : Int) := by omega
      obtain ⟨bA, fA, rfl, hbA, hcA⟩ := HL.out (by have := HN.out; omega)
      obtain ⟨u, e2, hone⟩ := hcA c (by have := HN.out; omega)
      obtain ⟨ga, oa, ka, rfl, hga, hka, hca⟩ := id hone
      have q2 := (hbe.cell (p := ⟨bA, fA + c, none⟩) hbA).trans e2
      have hlq := (hone.below hbe).lq
      have HCl := Lib.hid (HT.out c hlt _ _ wr hlq)
      have HBw := Lib.hid hbe
      have hsz := hbe.size
      have HSz := Lib.hid hsz
      by_cases hek : c = k0
      · subst hek
        have hy := HYes.out hlt
        rw [hy] at HCl
        have HLq := Lib.hid hlq
        clear hcA hone hca hlq hbe hy e2 hsz
        go_wp2_with fail
        refine HCl.out.mono ?_
        rintro e w2 ⟨rfl, hb2⟩
        have HB2 := Lib.hid (HB.out.trans (Joins.below_le (HBw.out.trans (Joins.below_le hb2 HSz.out)) HB.out.size))
        have HLq2 := Lib.hid (HLq.out.below hb2)
        clear hb2
        go_wp2_with fail
        go_ret2
        exact ⟨fun _ => ⟨_, _, rfl, HLq2.out, HB2.out⟩, fun h => absurd hlt h⟩
      · have hne := HNo.out c (by omega)
        have hnt := toList_ne hne
        obtain ⟨t, ht⟩ : ∃ t, ptx n (fun_ (PL.getD c [])) = t := ⟨_, rfl⟩
        rw [ht] at HCl hnt
        clear hcA hone hca hlq hbe hne ht e2 hsz
        go_wp2_with fail
        refine HCl.out.mono ?_
        rintro e w2 ⟨rfl, hb2⟩
        have HB2 := Lib.hid (HBw.out.trans (Joins.below_le hb2 HSz.out))
        clear hb2
        go_wp2_with fail
        go_roundw
        case rel => exact ⟨c + 1, by omega, by omega, by go_num, HB2.out⟩
        case measure => simp [intOf]; omega
    · have e : c = N := by omega
      subst e
      have hnk : ¬ k0 < c := by omega
      have HNk := Lib.hid hnk
      clear hnk
      have HB2 := Lib.hid (HB.out.trans (Joins.below_le hbe HB.out.size))
      clear hbe hlt
      go_wp2_with fail
      go_ret2
      exact ⟨fun h => absurd h HNk.out, fun _ => ⟨_, _, rfl, ⟨Lz.nil, by omega⟩, HB2.out⟩⟩

set_option maxRecDepth 100000 in
set_option maxHeartbeats 4000000 in
theorem rpar_good (n : Nat) (h1 : 1 ≤ n) (h5 : n ≤ 5) (s : ByteArray) (hs : s.size ≤ 24) (k0 : Nat) (hk0 : k0 ≤ (pl n).length) (hno : ∀ d, d < k0 → ptx n (fun_ ((pl n).getD d [])) ≠ s) (hyes : k0 < (pl n).length → ptx n (fun_ ((pl n).getD k0 [])) = s) (w : World) :
    Calls Tryd.prog 39 #[.int .i64 (n : Int), .string s] w (ParRes n k0 (pl n).length (zf (fun_ ((pl n).getD k0 []))) w) := by
  have H := Lib.hid (every_ok n h1 h5 w)
  have hs1 : ¬ (24 : Int) < (s.size : Int) := by omega
  have g1 : ¬ (n : Int) < 1 := by omega
  have g2 : ¬ 5 < (n : Int) := by omega
  have HT := Lib.hid (fun c (hc : c < (pl n).length) o cap W (h : Lq W o n cap (zf (fun_ ((pl n).getD c [])))) => (text_ok n h1 h5 ((pl n).getD c []) (by rw [List.getD_eq_getElem?_getD, List.getElem?_eq_getElem hc]; exact List.getElem_mem _) o cap W h.1).mono fun e w' (h : e = .returned (.string (ptx n (fun_ ((pl n).getD c [])))) ∧ W = w') => (⟨h.1, h.2 ▸ Below.refl _ _⟩ : e = .returned (.string (ptx n (fun_ ((pl n).getD c [])))) ∧ Below W.heap.size W w'))
  have h120 : (pl n).length ≤ 120 := (pl_nodup ⟨n, by omega⟩).2
  have HNo := Lib.hid hno
  have HYes := Lib.hid hyes
  generalize pl n = PL at *
  obtain ⟨N, hN⟩ : ∃ N, PL.length = N := ⟨_, rfl⟩
  rw [hN] at H HYes HT hk0 h120 ⊢
  have HN := Lib.hid hN
  clear hno hyes hN hs
  go_enter Tryd.func39, Tryd.ntmps39
  go_wp2_with fail
  refine H.out.mono ?_
  rintro e w1 ⟨o1, c1, rfl, hl, hb⟩
  have HL := Lib.hid hl
  have HB := Lib.hid hb
  clear hl hb H
  go_wp2_with fail
  go_loopw [7] (fun j wr => ∃ c : Nat, c ≤ N ∧ c ≤ k0 ∧ j = .int .i64 (c : Int) ∧ Below w1.heap.size w1 wr) (fun j _ => N - (intOf j).toNat)
  case atStart => exact ⟨0, by omega, by omega, by first | trivial | rfl, Below.refl _ _⟩
  case round =>
    obtain ⟨c, hc, hck, rfl, hbe⟩ := hrel
    by_cases hlt : c < N
    · have hc1 : (c : Int) < (N : Int) := by omega
      obtain ⟨bA, fA, rfl, hbA, hcA⟩ := HL.out (by have := HN.out; omega)
      obtain ⟨u, e2, hone⟩ := hcA c (by have := HN.out; omega)
      obtain ⟨ga, oa, ka, rfl, hga, hka, hca⟩ := id hone
      have q2 := (hbe.cell (p := ⟨bA, fA + c, none⟩) hbA).trans e2
      have hlq := (hone.below hbe).lq
      have HCl := Lib.hid (HT.out c hlt _ _ wr hlq)
      have HBw := Lib.hid hbe
      have hsz := hbe.size
      have HSz := Lib.hid hsz
      by_cases hek : c = k0
      · subst hek
        have hy := HYes.out hlt
        rw [hy] at HCl
        have HLq := Lib.hid hlq
        clear hcA hone hca hlq hbe hy e2 hsz
        go_wp2_with fail
        refine HCl.out.mono ?_
        rintro e w2 ⟨rfl, hb2⟩
        have HB2 := Lib.hid (HB.out.trans (Joins.below_le (HBw.out.trans (Joins.below_le hb2 HSz.out)) HB.out.size))
        have HLq2 := Lib.hid (HLq.out.below hb2)
        have q3 := (hb2.cell (p := ⟨bA, fA + c, none⟩) (World.block_lt_of_cell? _ _ q2)).trans q2
        clear q2
        clear hb2
        go_wp2_with fail
        go_ret2
        exact ⟨fun _ => ⟨_, _, rfl, HLq2.out, HB2.out⟩, fun h => absurd hlt h⟩
      · have hne := HNo.out c (by omega)
        have hnt := toList_ne hne
        obtain ⟨t, ht⟩ : ∃ t, ptx n (fun_ (PL.getD c [])) = t := ⟨_, rfl⟩
        rw [ht] at HCl hnt
        clear hcA hone hca hlq hbe hne ht e2 hsz
        go_wp2_with fail
        refine HCl.out.mono ?_
        rintro e w2 ⟨rfl, hb2⟩
        have HB2 := Lib.hid (HBw.out.trans (Joins.below_le hb2 HSz.out))
        clear hb2
        go_wp2_with fail
        go_roundw
        case rel => exact ⟨c + 1, by omega, by omega, by go_num, HB2.out⟩
        case measure => simp [intOf]; omega
    · have e : c = N := by omega
      subst e
      have hnk : ¬ k0 < c := by omega
      have HNk := Lib.hid hnk
      clear hnk
      have HB2 := Lib.hid (HB.out.trans (Joins.below_le hbe HB.out.size))
      clear hbe hlt
      go_wp2_with fail
      go_ret2
      exact ⟨fun h => absurd h HNk.out, fun _ => ⟨_, _, rfl, ⟨Lz.nil, by omega⟩, HB2.out⟩⟩

theorem parse_two (z : Int) (s : ByteArray) : ∃ (k : Nat) (u : Nat → Int) (c : Int), k ≤ 1000000 ∧ (∀ w, Calls Tryd.prog 38 #[.int .i64 z, .string s] w (QRes k u c w)) ∧ (∀ w, Calls Tryd.prog 39 #[.int .i64 z, .string s] w (QRes k u c w)) := by
  by_cases h : z < 1 ∨ 5 < z
  · exact ⟨0, _, 2, by omega, fun w => par_range z h s w, fun w => rpar_range z h s w⟩
  · obtain ⟨n, rfl⟩ := Int.eq_ofNat_of_zero_le (show 0 ≤ z by omega)
    have h1 : 1 ≤ n := by omega
    have h5 : n ≤ 5 := by omega
    by_cases hs : 24 < s.size
    · exact ⟨0, _, 13, by omega, fun w => par_long n h1 h5 s hs w, fun w => rpar_long n h1 h5 s hs w⟩
    · have hs' : s.size ≤ 24 := by omega
      by_cases hk : ∃ k, k < (pl n).length ∧ ptx n (fun_ ((pl n).getD k [])) = s
      · obtain ⟨k, hk1, hk2, hk3⟩ := first_of _ _ hk
        exact ⟨n, zf (fun_ ((pl n).getD k [])), 0, by omega, fun w => (par_good n h1 h5 s hs' k (by omega) hk3 (fun _ => hk2) w).mono fun e w' h => h.1 hk1, fun w => (rpar_good n h1 h5 s hs' k (by omega) hk3 (fun _ => hk2) w).mono fun e w' h => h.1 hk1⟩
      · have hno : ∀ d, d < (pl n).length → ptx n (fun_ ((pl n).getD d [])) ≠ s := fun d hd e => hk ⟨d, hd, e⟩
        exact ⟨0, _, 4, by omega, fun w => (par_good n h1 h5 s hs' _ (Nat.le_refl _) hno (fun h => absurd h (Nat.lt_irrefl _)) w).mono fun e w' h => h.2 (Nat.lt_irrefl _), fun w => (rpar_good n h1 h5 s hs' _ (Nat.le_refl _) hno (fun h => absurd h (Nat.lt_irrefl _)) w).mono fun e w' h => h.2 (Nat.lt_irrefl _)⟩

set_option maxRecDepth 100000 in
set_option maxHeartbeats 4000000 in
theorem texts_ok (n : Nat) (x : Nat → Int) (z : Int) (s : ByteArray) (hs : s.size ≤ maxLen) (o : Option Addr) (cap : Nat) (w : World) (hL : Lq w o n cap x) : Calls Tryd.prog 7 #[.slice o n cap, .int .i64 z, .string s] w fun e w' => e = .returned (.bool true) ∧ Below w.heap.size w w' := by
  have B := Lib.hid (Below.refl w.heap.size w)
  unfold maxLen at hs
  by_cases h1 : 60 < n
  · have h1z : (60 : Int) < (n : Int) := by omega
    have h1d : decide (60 < n) = true := decide_eq_true h1
    clear hL
    go_enter Tryd.func7, Tryd.ntmps7
    go_wp2_with fail
    refine (awake_ok _).mono ?_
    rintro e W1 ⟨rfl, hb⟩
    replace B := Lib.hid (B.out.trans (Joins.below_le hb B.out.size))
    clear hb 
    go_wp2_with fail
    go_ret
    exact ⟨rfl, B.out⟩
  · by_cases h2 : 200 < s.size
    · have h1z : ¬ (60 : Int) < (n : Int) := by omega
      have h2z : (200 : Int) < (s.size : Int) := by omega
      have h1d : decide (60 < n) = false := decide_eq_false h1
      have h2d : decide (200 < s.size) = true := decide_eq_true h2
      clear hL
      go_enter Tryd.func7, Tryd.ntmps7
      go_wp2_with fail
      refine (awake_ok _).mono ?_
      rintro e W1 ⟨rfl, hb⟩
      replace B := Lib.hid (B.out.trans (Joins.below_le hb B.out.size))
      clear hb 
      go_wp2_with fail
      go_ret
      exact ⟨rfl, B.out⟩
    · have h1z : ¬ (60 : Int) < (n : Int) := by omega
      have h2z : ¬ (200 : Int) < (s.size : Int) := by omega
      have h1d : decide (60 < n) = false := decide_eq_false h1
      have h2d : decide (200 < s.size) = false := decide_eq_false h2
      obtain ⟨t, c, hf1, hf2⟩ := fmt_two n x
      obtain ⟨k, u, c2, hk, hp1, hp2⟩ := parse_two z s
      have Hf1 := Lib.hid hf1
      have Hf2 := Lib.hid hf2
      have Hp1 := Lib.hid hp1
      have Hp2 := Lib.hid hp2
      have Hk := Lib.hid hk
      have La := Lib.hid hL
      clear hf1 hf2 hp1 hp2 hk hL h1 h2
      go_enter Tryd.func7, Tryd.ntmps7
      go_wp2_with fail
      refine (Hf1.out _ _ _ La.out).mono ?_
      rintro e W1 ⟨rfl, hb⟩
      replace La := Lib.hid (La.out.below hb)
      replace B := Lib.hid (B.out.trans (Joins.below_le hb B.out.size))
      clear hb 
      go_wp2_with fail
      refine (Hf2.out _ _ _ La.out).mono ?_
      rintro e W2 ⟨rfl, hb⟩
      replace La := Lib.hid (La.out.below hb)
      replace B := Lib.hid (B.out.trans (Joins.below_le hb B.out.size))
      clear hb 
      clear La
      go_wp2_with fail
      refine (Hp1.out _).mono ?_
      rintro e W3 ⟨o1, p1, rfl, hl, hb⟩
      replace B := Lib.hid (B.out.trans (Joins.below_le hb B.out.size))
      have A1 := Lib.hid hl
      clear hb hl
      go_wp2_with fail
      refine (Hp2.out _).mono ?_
      rintro e W4 ⟨o2, p2, rfl, hl, hb⟩
      replace A1 := Lib.hid (A1.out.below hb)
      replace B := Lib.hid (B.out.trans (Joins.below_le hb B.out.size))
      have A2 := Lib.hid hl
      clear hb hl
      go_wp2_with fail
      refine (awake_ok _).mono ?_
      rintro e W5 ⟨rfl, hb⟩
      replace A1 := Lib.hid (A1.out.below hb)
      replace A2 := Lib.hid (A2.out.below hb)
      replace B := Lib.hid (B.out.trans (Joins.below_le hb B.out.size))
      clear hb 
      go_wp2_with fail
      refine (equal_any k k Hk.out u u _ _ _ _ _ A1.out.1 A2.out.1).mono ?_
      rw [eqb_self (fun _ _ => rfl)]
      rintro e W6 ⟨rfl, hb⟩
      replace A1 := Lib.hid (A1.out.below hb)
      replace A2 := Lib.hid (A2.out.below hb)
      replace B := Lib.hid (B.out.trans (Joins.below_le hb B.out.size))
      clear hb 
      clear A1 A2
      go_wp2_with fail
      go_ret
      exact ⟨rfl, B.out⟩

end Go.Proofs.YtgppdbiimlbpjaaDoor
