/- The pairs of package and specification, and the three first laws. -/
import Derived.Test.YtienbebbgioccaaDoorPsK
import Derived.WalkKit
import Derived.WalkSpells
import Derived.WalkLawsBesides
import Derived.Handy
import Derived.Deep.QuietTactic
import Derived.BigQuiet
import Derived.Outline
import Derived.Laws.BitsAllLaws
import Derived.IntWalk
import Derived.Lib.SmallJoins
import Derived.Lib.Hide
import Derived.Deep.DeepCutAuto
import Derived.LoopTactic
import Derived.Deep.RegionWith
namespace Go.Proofs.YtienbebbgioccaaDoor
set_option linter.unusedVariables false
set_option linter.unusedSimpArgs false
open Go.RowKit

theorem pbad (n s : Int) : (∃ c : Int, c ≠ 0 ∧ (∀ w, Calls Tryd.prog 17 #[.int .i64 n, .int .i64 s] w fun e w' => e = .returned (.int .i64 c) ∧ w = w') ∧ ∀ w, Calls Tryd.prog 18 #[.int .i64 n, .int .i64 s] w fun e w' => e = .returned (.int .i64 c) ∧ w = w') ∨ ∃ N S : Nat, n = (N : Int) ∧ s = (S : Int) ∧ SOk N S := by
  rcases pcases n s with h | h | h
  · exact .inl ⟨1, by decide, fun w => pchk_n n s h w, fun w => rchk_n n s h w⟩
  · exact .inl ⟨2, by decide, fun w => pchk_s n s h w, fun w => rchk_s n s h w⟩
  · exact .inr h
theorem still {f : Nat} {a : Array Value} {v : Value} {w : World} (h : Calls Tryd.prog f a w fun e w' => e = .returned v ∧ w = w') : Calls Tryd.prog f a w fun e w' => e = .returned v ∧ Below w.heap.size w w' := by
  refine h.mono ?_
  rintro e w' ⟨rfl, rfl⟩
  exact ⟨rfl, Below.refl _ _⟩
theorem lbad {f : Nat} {a : Array Value} {c : Int} {w : World} (h : Calls Tryd.prog f a w fun e w' => e = .returned (.tuple #[.slice none 0 0, .int .i64 c]) ∧ Below w.heap.size w w') : Calls Tryd.prog f a w (LRes [] c w.heap.size w) := by
  refine h.mono ?_
  rintro e w' ⟨rfl, hb⟩
  exact ⟨_, rfl, hb, ⟨.inl ⟨rfl, rfl⟩⟩⟩
theorem check_two (n s : Int) : ∃ c : Int, (∀ w, Calls Tryd.prog 17 #[.int .i64 n, .int .i64 s] w fun e w' => e = .returned (.int .i64 c) ∧ w = w') ∧ ∀ w, Calls Tryd.prog 18 #[.int .i64 n, .int .i64 s] w fun e w' => e = .returned (.int .i64 c) ∧ w = w' := by
  rcases pbad n s with ⟨c, _, h1, h2⟩ | ⟨N, S, rfl, rfl, h⟩
  · exact ⟨c, h1, h2⟩
  · exact ⟨0, fun w => pchk_ok N S h w, fun w => rchk_ok N S h w⟩
theorem all_two (n : Int) : ∃ a c : Int, (∀ W, Calls Tryd.prog 9 #[.int .i64 n] W fun e w' => e = .returned (.tuple #[.int .i64 a, .int .i64 c]) ∧ Below W.heap.size W w') ∧ (∀ W, Calls Tryd.prog 10 #[.int .i64 n] W fun e w' => e = .returned (.tuple #[.int .i64 a, .int .i64 c]) ∧ Below W.heap.size W w') := by
  by_cases h : NOut n
  · exact ⟨0, 1, fun W => still (all_n n h W), fun W => still (rall_n n h W)⟩
  · unfold NOut at h
    obtain ⟨N, rfl⟩ := Int.eq_ofNat_of_zero_le (show 0 ≤ n by omega)
    exact ⟨_, 0, fun W => still (all_okn N (by omega) (by omega) W), fun W => still (rall_okn N (by omega) (by omega) W)⟩
theorem members_two (n s : Int) : ∃ (l : List Nat) (c : Int), l.length ≤ 1000000 ∧ (∀ W, Tab W → Calls Tryd.prog 11 #[.int .i64 n, .int .i64 s] W (LRes l c W.heap.size W)) ∧ (∀ W, Calls Tryd.prog 12 #[.int .i64 n, .int .i64 s] W (LRes l c W.heap.size W)) := by
  rcases pbad n s with ⟨c, h0, h1, h2⟩ | ⟨N, S, rfl, rfl, h⟩
  · exact ⟨[], c, by decide, fun W _ => lbad (still (members_bad n s c h0 h1 W)), fun W => lbad (still (rmembers_bad n s c h0 h2 W))⟩
  · have hm : (mem S).length ≤ 5 := memb_le S 5
    exact ⟨mem S, 0, by omega, fun W hT => members_okn N S h W hT, fun W => rmembers_okn N S h W⟩
theorem size_two (n s : Int) : ∃ a c : Int, (∀ W, Calls Tryd.prog 13 #[.int .i64 n, .int .i64 s] W fun e w' => e = .returned (.tuple #[.int .i64 a, .int .i64 c]) ∧ Below W.heap.size W w') ∧ (∀ W, Calls Tryd.prog 14 #[.int .i64 n, .int .i64 s] W fun e w' => e = .returned (.tuple #[.int .i64 a, .int .i64 c]) ∧ Below W.heap.size W w') := by
  rcases pbad n s with ⟨c, h0, h1, h2⟩ | ⟨N, S, rfl, rfl, h⟩
  · exact ⟨0, c, fun W => still (size_bad n s c h0 h1 W), fun W => still (rsize_bad n s c h0 h2 W)⟩
  · exact ⟨_, 0, fun W => still (size_okn N S h W), fun W => rsize_okn N S h W⟩
theorem least_two (n s : Int) : ∃ a c : Int, (∀ W, Tab W → Calls Tryd.prog 15 #[.int .i64 n, .int .i64 s] W fun e w' => e = .returned (.tuple #[.int .i64 a, .int .i64 c]) ∧ Below W.heap.size W w') ∧ (∀ W, Calls Tryd.prog 16 #[.int .i64 n, .int .i64 s] W fun e w' => e = .returned (.tuple #[.int .i64 a, .int .i64 c]) ∧ Below W.heap.size W w') := by
  rcases pbad n s with ⟨c, h0, h1, h2⟩ | ⟨N, S, rfl, rfl, h⟩
  · exact ⟨0, c, fun W _ => least_bad n s c h0 h1 W, fun W => still (rleast_bad n s c h0 h2 W)⟩
  · exact ⟨_, _, fun W hT => least_okn N S h W hT, fun W => rleast_okn N S h W⟩
theorem sub_len0 (S : Nat) (hs : S < 32) : (sub S 0).length ≤ 32 := by
  unfold sub
  refine Nat.le_trans (List.length_filter_le _ _) ?_
  rw [List.length_range']; omega
theorem cho_len (S : Nat) (hs : S < 32) (k : Int) : (cho S k).length ≤ 32 := Nat.le_trans (List.length_filter_le _ _) (sub_len0 S hs)
theorem subsets_two (n s : Int) : ∃ (l : List Nat) (c : Int), l.length ≤ 1000000 ∧ (∀ W, Calls Tryd.prog 24 #[.int .i64 n, .int .i64 s] W (LRes l c W.heap.size W)) ∧ (∀ W, Calls Tryd.prog 25 #[.int .i64 n, .int .i64 s] W (LRes l c W.heap.size W)) := by
  rcases pbad n s with ⟨c, h0, h1, h2⟩ | ⟨N, S, rfl, rfl, h⟩
  · exact ⟨[], c, by decide, fun W => lbad (still (subsets_bad n s c h0 h1 W)), fun W => lbad (still (rsubsets_bad n s c h0 h2 W))⟩
  · exact ⟨sub S 0, 0, by have := sub_len0 S h.lt; omega, fun W => subsets_okn N S h W, fun W => rsubsets_okn N S h W⟩
theorem choose_two (n s k : Int) : ∃ (l : List Nat) (c : Int), l.length ≤ 1000000 ∧ (∀ W, Calls Tryd.prog 26 #[.int .i64 n, .int .i64 s, .int .i64 k] W (LRes l c W.heap.size W)) ∧ (∀ W, Calls Tryd.prog 27 #[.int .i64 n, .int .i64 s, .int .i64 k] W (LRes l c W.heap.size W)) := by
  rcases pbad n s with ⟨c, h0, h1, h2⟩ | ⟨N, S, rfl, rfl, h⟩
  · exact ⟨[], c, by decide, fun W => lbad (choose_bad n s k c h0 (fun w => size_bad n s c h0 h1 w) W), fun W => lbad (rchoose_bad n s k c h0 h2 W)⟩
  · by_cases hk : k < 0 ∨ (num S : Int) < k
    · exact ⟨[], 2, by decide, fun W => lbad (choose_rng N S h k hk W), fun W => lbad (rchoose_rng N S h k hk W)⟩
    · exact ⟨cho S k, 0, by have := cho_len S h.lt k; omega, fun W => choose_okn N S h k (by omega) W, fun W => rchoose_okn N S h k (by omega) W⟩
theorem of_nil_two (n : Int) : ∃ a c : Int, (∀ W, Calls Tryd.prog 22 #[.int .i64 n, .slice none 0 0] W fun e w' => e = .returned (.tuple #[.int .i64 a, .int .i64 c]) ∧ Below W.heap.size W w') ∧ (∀ W, Calls Tryd.prog 23 #[.int .i64 n, .slice none 0 0] W fun e w' => e = .returned (.tuple #[.int .i64 a, .int .i64 c]) ∧ Below W.heap.size W w') := by
  by_cases h : NOut n
  · exact ⟨0, 1, fun W => still (of_n n h _ W), fun W => still (rof_n n h _ W)⟩
  · unfold NOut at h
    obtain ⟨N, rfl⟩ := Int.eq_ofNat_of_zero_le (show 0 ≤ n by omega)
    exact ⟨_, _, fun W => still (of_nil N (by omega) W), fun W => still (rof_nil N (by omega) W)⟩
theorem of_empty (N : Nat) (h1 : 1 ≤ N ∧ N ≤ 5) (a : Addr) (cap : Nat) (w : World) : Calls Tryd.prog 22 #[.int .i64 (N : Int), .slice (some a) 0 cap] w fun e w' => e = .returned (.tuple #[.int .i64 0, .int .i64 0]) ∧ w = w' := by
  have H := Lib.hid (fun w => pchk_ok N 0 ⟨h1.1, h1.2, Nat.pow_pos (by omega)⟩ w)
  clear h1
  go_enter Tryd.func22, Tryd.ntmps22
  go_wp2_with fail
  refine (H.out _).mono ?_
  rintro e w' ⟨rfl, rfl⟩
  go_wp2_with fail
  go_rounds 1
  go_ret2
  exact ⟨rfl, rfl⟩
theorem rof_empty (N : Nat) (h1 : 1 ≤ N ∧ N ≤ 5) (a : Addr) (cap : Nat) (w : World) : Calls Tryd.prog 23 #[.int .i64 (N : Int), .slice (some a) 0 cap] w fun e w' => e = .returned (.tuple #[.int .i64 0, .int .i64 0]) ∧ w = w' := by
  have H := Lib.hid (fun w => rprocs_ok (N : Int) (by omega) w)
  clear h1
  go_enter Tryd.func23, Tryd.ntmps23
  go_wp2_with fail
  refine (H.out _).mono ?_
  rintro e w' ⟨rfl, rfl⟩
  go_wp2_with fail
  go_rounds 1
  go_ret2
  exact ⟨rfl, rfl⟩
theorem of_empty_two (n : Int) (a : Addr) (cap : Nat) : ∃ x c : Int, (∀ W, Calls Tryd.prog 22 #[.int .i64 n, .slice (some a) 0 cap] W fun e w' => e = .returned (.tuple #[.int .i64 x, .int .i64 c]) ∧ Below W.heap.size W w') ∧ (∀ W, Calls Tryd.prog 23 #[.int .i64 n, .slice (some a) 0 cap] W fun e w' => e = .returned (.tuple #[.int .i64 x, .int .i64 c]) ∧ Below W.heap.size W w') := by
  by_cases h : NOut n
  · exact ⟨0, 1, fun W => still (of_n n h _ W), fun W => still (rof_n n h _ W)⟩
  · unfold NOut at h
    obtain ⟨N, rfl⟩ := Int.eq_ofNat_of_zero_le (show 0 ≤ n by omega)
    exact ⟨_, _, fun W => still (of_empty N (by omega) a cap W), fun W => still (rof_empty N (by omega) a cap W)⟩
theorem of_two (n : Int) (l : List Int) (hl : l.length ≤ 1000000) (b off cap : Nat) : ∃ a c : Int, (∀ W, Arz W b off l → Calls Tryd.prog 22 #[.int .i64 n, .slice (some ⟨b, off, none⟩) l.length cap] W fun e w' => e = .returned (.tuple #[.int .i64 a, .int .i64 c]) ∧ W = w') ∧ (∀ W, Arz W b off l → Calls Tryd.prog 23 #[.int .i64 n, .slice (some ⟨b, off, none⟩) l.length cap] W fun e w' => e = .returned (.tuple #[.int .i64 a, .int .i64 c]) ∧ W = w') := by
  by_cases h : NOut n
  · exact ⟨0, 1, fun W _ => of_n n h _ W, fun W _ => rof_n n h _ W⟩
  · unfold NOut at h
    obtain ⟨N, rfl⟩ := Int.eq_ofNat_of_zero_le (show 0 ≤ n by omega)
    exact ⟨_, _, fun W hA => of_okn N (by omega) l hl b off cap W hA, fun W hA => rof_okn N (by omega) l hl b off cap W hA⟩
theorem few_yes (o : Option Addr) (k cap : Nat) (h : (k : Int) ≤ 60) (w : World) : Calls Tryd.prog 21 #[.slice o k cap] w fun e w' => e = .returned (.bool true) ∧ w = w' := by
  go_enter Tryd.func21, Tryd.ntmps21
  go_wp2_with fail
  go_ret
  exact ⟨by simp <;> omega, rfl⟩
theorem few_no (o : Option Addr) (k cap : Nat) (h : (60 : Int) < (k : Int)) (w : World) : Calls Tryd.prog 21 #[.slice o k cap] w fun e w' => e = .returned (.bool false) ∧ w = w' := by
  go_enter Tryd.func21, Tryd.ntmps21
  go_wp2_with fail
  go_ret
  exact ⟨by simp <;> omega, rfl⟩
/-- What a law wants of its first world. -/
structure Good (w : World) : Prop where
  tab : Tab w
  lt : 3 < w.heap.size
  int : ∃ m, w.cell? ⟨3, 0, none⟩ = some (.int .i64 m)
theorem Good.below {w W : World} (h : Good w) (hb : Below w.heap.size w W) : Good W :=
  ⟨h.tab.below hb (by have := h.lt; omega), Nat.lt_of_lt_of_le h.lt hb.size, h.int.imp fun m hm => int_cell hm h.lt hb⟩
theorem awake_good (w : World) (h : Good w) : Calls Tryd.prog 20 #[] w fun e w' => e = .returned (.bool true) ∧ Below w.heap.size w w' := by
  obtain ⟨m, hm⟩ := h.int
  exact awake_ok m w h.tab h.lt hm

set_option maxRecDepth 100000 in
set_option maxHeartbeats 16000000 in
theorem lists_ok (n s : Int) (w : World) (hg : Good w) : Calls Tryd.prog 3 #[.int .i64 n, .int .i64 s] w fun e w' => e = .returned (.bool true) ∧ Below w.heap.size w w' := by
  obtain ⟨a1, c1, h1, h2⟩ := all_two n
  obtain ⟨l, c2, hl, h3, h4⟩ := members_two n s
  obtain ⟨a3, c3, h5, h6⟩ := size_two n s
  obtain ⟨a4, c4, h7, h8⟩ := least_two n s
  obtain ⟨c5, h9, h10⟩ := check_two n s
  have H1 := Lib.hid h1
  have H2 := Lib.hid h2
  have H3 := Lib.hid h3
  have H4 := Lib.hid h4
  have H5 := Lib.hid h5
  have H6 := Lib.hid h6
  have H7 := Lib.hid h7
  have H8 := Lib.hid h8
  have H9 := Lib.hid h9
  have H10 := Lib.hid h10
  have HG := Lib.hid hg
  clear h1 h2 h3 h4 h5 h6 h7 h8 h9 h10 hg
  go_enter Tryd.func3, Tryd.ntmps3
  go_wp2_with fail
  refine (H1.out _).mono ?_
  rintro e W1 ⟨rfl, hB⟩
  have B1 : Hid (Below w.heap.size w W1) := Lib.hid hB
  clear hB H1
  go_wp2_with fail
  refine (H2.out _).mono ?_
  rintro e W2 ⟨rfl, hB⟩
  have B2 : Hid (Below w.heap.size w W2) := Lib.hid (bt B1.out hB)
  clear hB H2 B1
  go_wp2_with fail
  refine (H3.out _ (HG.out.below B2.out).tab).mono ?_
  rintro e W3 ⟨v3, rfl, hB, hL⟩
  have B3 : Hid (Below w.heap.size w W3) := Lib.hid (bt B2.out hB)
  have L3 : Hid (LiesI W3 v3 l) := Lib.hid hL
  clear hB H3 B2 hL
  go_wp2_with fail
  refine (H4.out _).mono ?_
  rintro e W4 ⟨v4, rfl, hB, hL⟩
  have B4 : Hid (Below w.heap.size w W4) := Lib.hid (bt B3.out hB)
  have K3 : Hid (LiesI W4 v3 l) := Lib.hid (L3.out.below hB)
  have L4 : Hid (LiesI W4 v4 l) := Lib.hid hL
  clear hB H4 B3 hL L3
  go_wp2_with fail
  refine (H5.out _).mono ?_
  rintro e W5 ⟨rfl, hB⟩
  have B5 : Hid (Below w.heap.size w W5) := Lib.hid (bt B4.out hB)
  have D5 : Hid (LiesI W5 v3 l ∧ LiesI W5 v4 l) := Lib.hid ⟨K3.out.below hB, L4.out.below hB⟩
  clear hB H5 B4 K3 L4
  go_wp2_with fail
  refine (H6.out _).mono ?_
  rintro e W6 ⟨rfl, hB⟩
  have B6 : Hid (Below w.heap.size w W6) := Lib.hid (bt B5.out hB)
  have D6 : Hid (LiesI W6 v3 l ∧ LiesI W6 v4 l) := Lib.hid ⟨D5.out.1.below hB, D5.out.2.below hB⟩
  clear hB H6 B5 D5
  go_wp2_with fail
  refine (H7.out _ (HG.out.below B6.out).tab).mono ?_
  rintro e W7 ⟨rfl, hB⟩
  have B7 : Hid (Below w.heap.size w W7) := Lib.hid (bt B6.out hB)
  have D7 : Hid (LiesI W7 v3 l ∧ LiesI W7 v4 l) := Lib.hid ⟨D6.out.1.below hB, D6.out.2.below hB⟩
  clear hB H7 B6 D6
  go_wp2_with fail
  refine (H8.out _).mono ?_
  rintro e W8 ⟨rfl, hB⟩
  have B8 : Hid (Below w.heap.size w W8) := Lib.hid (bt B7.out hB)
  have D8 : Hid (LiesI W8 v3 l ∧ LiesI W8 v4 l) := Lib.hid ⟨D7.out.1.below hB, D7.out.2.below hB⟩
  clear hB H8 B7 D7
  go_wp2_with fail
  refine (H9.out _).mono ?_
  rintro e w' ⟨rfl, rfl⟩
  go_wp2_with fail
  refine (H10.out _).mono ?_
  rintro e w' ⟨rfl, rfl⟩
  go_wp2_with fail
  refine (same_ok l hl _ _ _ D8.out.1 D8.out.2).mono ?_
  rintro e W9 ⟨rfl, hB⟩
  have B9 : Hid (Below w.heap.size w W9) := Lib.hid (bt B8.out hB)
  clear hB B8 D8
  go_wp2_with fail
  refine (awake_good _ (HG.out.below B9.out)).mono ?_
  rintro e W10 ⟨rfl, hB⟩
  have B10 : Hid (Below w.heap.size w W10) := Lib.hid (bt B9.out hB)
  clear hB B9
  go_wp2_with fail
  go_ret
  exact ⟨rfl, B10.out⟩

set_option maxRecDepth 100000 in
set_option maxHeartbeats 16000000 in
theorem chooses_ok (n s k : Int) (w : World) (hg : Good w) : Calls Tryd.prog 5 #[.int .i64 n, .int .i64 s, .int .i64 k] w fun e w' => e = .returned (.bool true) ∧ Below w.heap.size w w' := by
  obtain ⟨l, c2, hl, h3, h4⟩ := subsets_two n s
  obtain ⟨l2, c3, hl2, h5, h6⟩ := choose_two n s k
  have H3 := Lib.hid h3
  have H4 := Lib.hid h4
  have H5 := Lib.hid h5
  have H6 := Lib.hid h6
  have HG := Lib.hid hg
  clear h3 h4 h5 h6 hg
  go_enter Tryd.func5, Tryd.ntmps5
  go_wp2_with fail
  refine (H3.out _).mono ?_
  rintro e W3 ⟨v3, rfl, hB, hL⟩
  have B3 : Hid (Below w.heap.size w W3) := Lib.hid hB
  have L3 : Hid (LiesI W3 v3 l) := Lib.hid hL
  clear hB H3 hL
  go_wp2_with fail
  refine (H4.out _).mono ?_
  rintro e W4 ⟨v4, rfl, hB, hL⟩
  have B4 : Hid (Below w.heap.size w W4) := Lib.hid (bt B3.out hB)
  have D4 : Hid (LiesI W4 v3 l ∧ LiesI W4 v4 l) := Lib.hid ⟨L3.out.below hB, hL⟩
  clear hB H4 B3 hL L3
  go_wp2_with fail
  refine (H5.out _).mono ?_
  rintro e W5 ⟨v5, rfl, hB, hL⟩
  have B5 : Hid (Below w.heap.size w W5) := Lib.hid (bt B4.out hB)
  have D5 : Hid (LiesI W5 v3 l ∧ LiesI W5 v4 l ∧ LiesI W5 v5 l2) := Lib.hid ⟨D4.out.1.below hB, D4.out.2.below hB, hL⟩
  clear hB H5 B4 D4 hL
  go_wp2_with fail
  refine (H6.out _).mono ?_
  rintro e W6 ⟨v6, rfl, hB, hL⟩
  have B6 : Hid (Below w.heap.size w W6) := Lib.hid (bt B5.out hB)
  have D6 : Hid (LiesI W6 v3 l ∧ LiesI W6 v4 l ∧ LiesI W6 v5 l2 ∧ LiesI W6 v6 l2) := Lib.hid ⟨D5.out.1.below hB, D5.out.2.1.below hB, D5.out.2.2.below hB, hL⟩
  clear hB H6 B5 D5 hL
  go_wp2_with fail
  refine (same_ok l hl _ _ _ D6.out.1 D6.out.2.1).mono ?_
  rintro e W7 ⟨rfl, hB⟩
  have B7 : Hid (Below w.heap.size w W7) := Lib.hid (bt B6.out hB)
  have D7 : Hid (LiesI W7 v5 l2 ∧ LiesI W7 v6 l2) := Lib.hid ⟨D6.out.2.2.1.below hB, D6.out.2.2.2.below hB⟩
  clear hB B6 D6
  go_wp2_with fail
  refine (same_ok l2 hl2 _ _ _ D7.out.1 D7.out.2).mono ?_
  rintro e W9 ⟨rfl, hB⟩
  have B9 : Hid (Below w.heap.size w W9) := Lib.hid (bt B7.out hB)
  clear hB B7 D7
  go_wp2_with fail
  refine (awake_good _ (HG.out.below B9.out)).mono ?_
  rintro e W10 ⟨rfl, hB⟩
  have B10 : Hid (Below w.heap.size w W10) := Lib.hid (bt B9.out hB)
  clear hB B9
  go_wp2_with fail
  go_ret
  exact ⟨rfl, B10.out⟩

set_option maxRecDepth 100000 in
set_option maxHeartbeats 16000000 in
theorem collects_nil (n : Int) (w : World) (hg : Good w) : Calls Tryd.prog 4 #[.int .i64 n, .slice none 0 0] w fun e w' => e = .returned (.bool true) ∧ Below w.heap.size w w' := by
  obtain ⟨a, c, h1, h2⟩ := of_nil_two n
  have H1 := Lib.hid h1
  have H2 := Lib.hid h2
  have HG := Lib.hid hg
  clear h1 h2 hg
  go_enter Tryd.func4, Tryd.ntmps4
  go_wp2_with fail
  refine (few_yes _ _ _ (by decide) _).mono ?_
  rintro e w' ⟨rfl, rfl⟩
  go_wp2_with fail
  refine (H1.out _).mono ?_
  rintro e W1 ⟨rfl, hB⟩
  have B1 : Hid (Below w.heap.size w W1) := Lib.hid hB
  clear hB H1
  go_wp2_with fail
  refine (H2.out _).mono ?_
  rintro e W2 ⟨rfl, hB⟩
  have B2 : Hid (Below w.heap.size w W2) := Lib.hid (bt B1.out hB)
  clear hB H2 B1
  go_wp2_with fail
  refine (awake_good _ (HG.out.below B2.out)).mono ?_
  rintro e W10 ⟨rfl, hB⟩
  have B10 : Hid (Below w.heap.size w W10) := Lib.hid (bt B2.out hB)
  clear hB B2
  go_wp2_with fail
  go_ret
  exact ⟨rfl, B10.out⟩

set_option maxRecDepth 100000 in
set_option maxHeartbeats 16000000 in
theorem collects_empty (n : Int) (a : Addr) (cap : Nat) (w : World) (hg : Good w) : Calls Tryd.prog 4 #[.int .i64 n, .slice (some a) 0 cap] w fun e w' => e = .returned (.bool true) ∧ Below w.heap.size w w' := by
  obtain ⟨x, c, h1, h2⟩ := of_empty_two n a cap
  have H1 := Lib.hid h1
  have H2 := Lib.hid h2
  have HG := Lib.hid hg
  clear h1 h2 hg
  go_enter Tryd.func4, Tryd.ntmps4
  go_wp2_with fail
  refine (few_yes _ _ _ (by decide) _).mono ?_
  rintro e w' ⟨rfl, rfl⟩
  go_wp2_with fail
  refine (H1.out _).mono ?_
  rintro e W1 ⟨rfl, hB⟩
  have B1 : Hid (Below w.heap.size w W1) := Lib.hid hB
  clear hB H1
  go_wp2_with fail
  refine (H2.out _).mono ?_
  rintro e W2 ⟨rfl, hB⟩
  have B2 : Hid (Below w.heap.size w W2) := Lib.hid (bt B1.out hB)
  clear hB H2 B1
  go_wp2_with fail
  refine (awake_good _ (HG.out.below B2.out)).mono ?_
  rintro e W10 ⟨rfl, hB⟩
  have B10 : Hid (Below w.heap.size w W10) := Lib.hid (bt B2.out hB)
  clear hB B2
  go_wp2_with fail
  go_ret
  exact ⟨rfl, B10.out⟩

set_option maxRecDepth 100000 in
set_option maxHeartbeats 16000000 in
theorem collects_some (n : Int) (l : List Int) (b off cap : Nat) (w : World) (hg : Good w) (hA : Arz w b off l) : Calls Tryd.prog 4 #[.int .i64 n, .slice (some ⟨b, off, none⟩) l.length cap] w fun e w' => e = .returned (.bool true) ∧ Below w.heap.size w w' := by
  by_cases hl : l.length ≤ 60
  · obtain ⟨a, c, h1, h2⟩ := of_two n l (by omega) b off cap
    have H1 := Lib.hid (h1 w hA)
    have H2 := Lib.hid (h2 w hA)
    have HG := Lib.hid hg
    have hli : (l.length : Int) ≤ 60 := by omega
    clear h1 h2 hg hA hl
    go_enter Tryd.func4, Tryd.ntmps4
    go_wp2_with fail
    refine (few_yes _ _ _ hli _).mono ?_
    rintro e w' ⟨rfl, rfl⟩
    go_wp2_with fail
    refine H1.out.mono ?_
    rintro e w' ⟨rfl, rfl⟩
    go_wp2_with fail
    refine H2.out.mono ?_
    rintro e w' ⟨rfl, rfl⟩
    go_wp2_with fail
    refine (awake_good _ HG.out).mono ?_
    rintro e W10 ⟨rfl, hB⟩
    have B10 : Hid (Below w.heap.size w W10) := Lib.hid hB
    clear hB
    go_wp2_with fail
    go_ret
    exact ⟨rfl, B10.out⟩
  · have HG := Lib.hid hg
    have hli : (60 : Int) < (l.length : Int) := by omega
    clear hg hA hl
    go_enter Tryd.func4, Tryd.ntmps4
    go_wp2_with fail
    refine (few_no _ _ _ hli _).mono ?_
    rintro e w' ⟨rfl, rfl⟩
    go_wp2_with fail
    refine (awake_good _ HG.out).mono ?_
    rintro e W10 ⟨rfl, hB⟩
    have B10 : Hid (Below w.heap.size w W10) := Lib.hid hB
    clear hB
    go_wp2_with fail
    go_ret
    exact ⟨rfl, B10.out⟩
end Go.Proofs.YtienbebbgioccaaDoor
