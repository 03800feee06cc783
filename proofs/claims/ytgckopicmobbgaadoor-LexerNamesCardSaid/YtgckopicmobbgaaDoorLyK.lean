/- The specification: the reserved words; LexerNames. -/
import Derived.Test.YtgckopicmobbgaaDoorLxY
import Derived.Test.YtgckopicmobbgaaDoorLxO
import Derived.WalkKit
import Derived.WalkSpells
import Derived.WalkLawsBesides
import Derived.Handy
import Derived.Deep.QuietTactic
import Derived.BigQuiet
import Derived.Outline
import Derived.Laws.BitsAllLaws
import Derived.IntWalk
import Derived.Lib.SmallJoins
import Derived.Lib.Hide
import Derived.Deep.DeepCutAuto
import Derived.LoopTactic
import Derived.Deep.RegionWith
import Derived.Lib.ConvBytes
import Derived.OwnWalk
import Derived.Laws.MakeOwn
import Derived.Laws.IdiomStrings
namespace Go.Proofs.YtgckopicmobbgaaDoor
set_option linter.unusedVariables false
set_option linter.unusedSimpArgs false
open Go.RowKit Lex

/-- The constant in the specification's text. -/
theorem kw_lit : bl ({ data := ((((([67, 32, 68, 32, 69, 32, 75, 32, 97, 100, 118, 101, 114, 115, 97, 114, 121, 32, 97, 108, 108, 32, 97, 108, 108, 111, 119, 32, 97, 108, 119, 97, 121] : List UInt8).append [115, 32, 97, 110, 100, 32, 97, 116, 32, 99, 97, 108, 109, 32, 99, 111, 117, 110, 116, 32, 99, 114, 97, 115, 104, 32, 100, 101, 99, 105, 100, 101, 100, 32]).append ([101, 118, 101, 110, 116, 117, 97, 108, 108, 121, 32, 101, 118, 101, 114, 121, 111, 110, 101, 32, 102, 97, 117, 108, 116, 121, 32, 102, 111, 114, 32, 102, 111, 114].append [109, 117, 108, 97, 32, 103, 105, 118, 101, 110, 32, 103, 114, 97, 112, 104, 115, 32, 104, 101, 97, 114, 100, 32, 104, 101, 97, 114, 115, 32, 105, 110, 32, 105])).append (([110, 112, 117, 116, 32, 105, 110, 112, 117, 116, 115, 32, 110, 101, 120, 116, 32, 110, 111, 116, 32, 111, 109, 105, 116, 32, 111, 114, 32, 111, 117, 116, 32, 111].append [117, 116, 112, 117, 116, 115, 32, 112, 97, 114, 116, 105, 116, 105, 111, 110, 32, 112, 114, 111, 98, 108, 101, 109, 32, 112, 114, 111, 99, 101, 115, 115, 101, 115]).append ([32, 114, 101, 99, 101, 105, 118, 101, 32, 114, 111, 117, 110, 100, 115, 32, 115, 101, 110, 100, 32, 115, 110, 97, 112, 115, 104, 111, 116, 32, 115, 111, 109, 101].append [32, 116, 97, 115, 107, 32, 116, 104, 101, 110, 32, 116, 114, 117, 101, 32, 117, 110, 100, 101, 114, 32, 117, 110, 116, 105, 108, 32, 119, 104, 101, 114, 101, 32])))).toArray } : ByteArray) = kwAll := by decide +kernel
theorem take_snoc {l : List Nat} {i : Nat} (h : i < l.length) : l.take (i + 1) = l.take i ++ [l.getD i 0] := by
  rw [List.take_succ_eq_append_getElem h, List.getD_eq_getElem?_getD, List.getElem?_eq_getElem h]
  rfl
set_option maxRecDepth 100000 in
set_option maxHeartbeats 2000000 in
theorem rkeywords (w : World) : Calls Tryd.prog 24 #[] w (KRes rsT w) := by
  go_enter Tryd.func24, Tryd.ntmps24
  go_wp2_with fail
  have hbl := kw_lit
  obtain ⟨A, hA⟩ : ∃ A : ByteArray, { data := ((((([67, 32, 68, 32, 69, 32, 75, 32, 97, 100, 118, 101, 114, 115, 97, 114, 121, 32, 97, 108, 108, 32, 97, 108, 108, 111, 119, 32, 97, 108, 119, 97, 121] : List UInt8).append [115, 32, 97, 110, 100, 32, 97, 116, 32, 99, 97, 108, 109, 32, 99, 111, 117, 110, 116, 32, 99, 114, 97, 115, 104, 32, 100, 101, 99, 105, 100, 101, 100, 32]).append ([101, 118, 101, 110, 116, 117, 97, 108, 108, 121, 32, 101, 118, 101, 114, 121, 111, 110, 101, 32, 102, 97, 117, 108, 116, 121, 32, 102, 111, 114, 32, 102, 111, 114].append [109, 117, 108, 97, 32, 103, 105, 118, 101, 110, 32, 103, 114, 97, 112, 104, 115, 32, 104, 101, 97, 114, 100, 32, 104, 101, 97, 114, 115, 32, 105, 110, 32, 105])).append (([110, 112, 117, 116, 32, 105, 110, 112, 117, 116, 115, 32, 110, 101, 120, 116, 32, 110, 111, 116, 32, 111, 109, 105, 116, 32, 111, 114, 32, 111, 117, 116, 32, 111].append [117, 116, 112, 117, 116, 115, 32, 112, 97, 114, 116, 105, 116, 105, 111, 110, 32, 112, 114, 111, 98, 108, 101, 109, 32, 112, 114, 111, 99, 101, 115, 115, 101, 115]).append ([32, 114, 101, 99, 101, 105, 118, 101, 32, 114, 111, 117, 110, 100, 115, 32, 115, 101, 110, 100, 32, 115, 110, 97, 112, 115, 104, 111, 116, 32, 115, 111, 109, 101].append [32, 116, 97, 115, 107, 32, 116, 104, 101, 110, 32, 116, 114, 117, 101, 32, 117, 110, 100, 101, 114, 32, 117, 110, 116, 105, 108, 32, 119, 104, 101, 114, 101, 32])))).toArray } = A := ⟨_, rfl⟩
  rw [hA] at hbl ⊢
  have hsz : A.size = kwAll.length := by rw [← hbl, bl_len]
  have hN : kwAll.length ≤ 1000 := by decide +kernel
  obtain ⟨N, hNN⟩ : ∃ N, kwAll.length = N := ⟨_, rfl⟩
  rw [hNN] at hsz hN
  have HBl := Lib.hid hbl
  have HSz := Lib.hid hsz
  have HNN := Lib.hid hNN
  clear hA hbl hsz hNN
  go_loopw [1, 3, 4] (fun v u j wr => ∃ i : Nat, i ≤ N ∧ j = .int .i64 (i : Int) ∧ RowS wr w.heap.size v (kwF (kwAll.take i)).1 ∧ u = .string (mk (kwF (kwAll.take i)).2) ∧ Below w.heap.size w wr) (fun _ _ j _ => N - (intOf j).toNat)
  case atStart => exact ⟨0, by omega, by first | trivial | rfl, RowS.nil _ _, by first | trivial | rfl, Below.refl _ _⟩
  case round =>
    obtain ⟨i, hi, rfl, hrow, rfl, hbe⟩ := hrel
    have hszz := HSz.out
    by_cases hlt : i < N
    · have hil : i < A.size := by omega
      have hi1 : (i : Int) < (A.size : Int) := by omega
      have hik : i < kwAll.length := by rw [HNN.out]; exact hlt
      have hc := bl_at hil
      have hex := ext_mk A i (i + 1)
      have hdr := bl_drop hil
      rw [HBl.out] at hc hex hdr
      have hts := take_snoc hik
      have hg : kwAll.getD i 0 = (A[i]'hil).toNat := by rw [List.getD_eq_getElem?_getD, hc]; rfl
      rw [hg] at hts
      obtain ⟨c, hcc⟩ : ∃ c, (A[i]'hil).toNat = c := ⟨_, rfl⟩
      rw [hcc] at hts hdr
      rw [hdr, show i + 1 - i = 1 by omega] at hex
      have hex2 : A.extract i (i + 1) = mk [c] := by rw [hex]; rfl
      have hst := kwF_snoc (kwAll.take i) c
      rw [← hts] at hst
      have hbd := kwF_bound (kwAll.take i) ([], [])
      have hlk : (kwAll.take i).length ≤ N := by rw [List.length_take, HNN.out]; omega
      unfold kwF at hst hrow
      obtain ⟨s, hs⟩ : ∃ s, (kwAll.take i).foldl kwS ([], []) = s := ⟨_, rfl⟩
      have hsm : kwF (kwAll.take i) = s := hs
      rw [hs] at hst hbd hrow
      rw [hsm]
      obtain ⟨ro, wo⟩ := s
      have hw1 : (mk wo).size ≤ 2000 := by rw [mk_size]; simp at hbd; omega
      have hr1 : ro.length ≤ 2000 := by simp at hbd; omega
      have HRow := Lib.hid hrow
      have HBe := Lib.hid hbe
      have hi2 : (i : Int) + 1 ≤ (A.size : Int) := by omega
      by_cases h32 : c = 32
      · have hn : kwF (kwAll.take (i + 1)) = (ro ++ [wo], []) := by
          show (kwAll.take (i + 1)).foldl kwS ([], []) = _
          rw [hst]
          unfold kwS
          rw [if_pos h32]
        have HNx := Lib.hid hn
        have e1 : (c : Int) = 32 := by omega
        have HWd := Lib.hid (show mk wo = mk wo from rfl)
        clear hc hex hdr hts hg hex2 hst hbd hlk hs hsm hrow hbe hn hik
        subst h32
        go_wp2_with (at_builtin; refine app_str _ rfl _ _ rfl w.heap.size _ ro rfl (HRow.out.alloc _) wr.heap.size wo rfl (World.cell?_alloc_mark _ #[_] 9 (0, 0) 0) (by omega) ?hRk ?_)
        case hRk => have := HBe.out.size; simp; omega
        intro g cap w2 hr2 hb2 hg
        have HR2 := Lib.hid hr2
        have HB2 := Lib.hid ((HBe.out.alloc HBe.out.size _).trans hb2)
        clear hr2 hb2 hg
        go_wp2_with fail
        go_roundw
        case rel => exact ⟨i + 1, by omega, by go_num, by rw [HNx.out]; exact HR2.out, by rw [HNx.out]; rfl, HB2.out⟩
        case measure => simp [intOf]; omega
      · have hn : kwF (kwAll.take (i + 1)) = (ro, wo ++ [c]) := by
          show (kwAll.take (i + 1)).foldl kwS ([], []) = _
          rw [hst]
          unfold kwS
          rw [if_neg h32]
        have HNx := Lib.hid hn
        have e1 : ((c : Int) == 32) = false := by rw [beq_eq_false_iff_ne]; omega
        have e2 : ¬ (c : Int) = 32 := by omega
        obtain ⟨wb, hwb⟩ : ∃ wb, mk wo = wb := ⟨_, rfl⟩
        obtain ⟨cb, hcb⟩ : ∃ cb, mk [c] = cb := ⟨_, rfl⟩
        have HAp := Lib.hid (show mk (wo ++ [c]) = wb ++ cb by rw [mk_app, hwb, hcb])
        have hcs : cb.size = 1 := by rw [← hcb, mk_size]; rfl
        have hcs2 : cb.size ≤ 1 := by omega
        rw [hwb] at hw1 ⊢
        rw [hcb] at hex2
        clear hc hex hdr hts hg hst hbd hlk hs hsm hrow hbe hn hik h32 hwb hcb hcs
        go_wp2_with fail
        go_roundw
        case rel => exact ⟨i + 1, by omega, by go_num, by rw [HNx.out]; exact HRow.out, by rw [HNx.out, HAp.out], HBe.out⟩
        case measure => simp [intOf]; omega
    · obtain rfl : i = N := by omega
      have e : kwAll.take i = kwAll := List.take_of_length_le (by rw [HNN.out]; exact Nat.le_refl _)
      rw [e, kw_all] at hrow
      have HRow := Lib.hid hrow
      have HBe := Lib.hid hbe
      clear hrow hbe e hlt
      go_wp2_with fail
      exact bodyPost_ret (by simp [results, Tryd.results24, go_sem]) rfl ⟨_, rfl, HRow.out, HBe.out⟩
set_option maxRecDepth 100000 in
set_option maxHeartbeats 1000000 in
theorem rreserved (s : ByteArray) (w : World) : Calls Tryd.prog 21 #[.string s] w fun e w' => e = .returned (.bool (decide (bl s ∈ rsT))) ∧ Below w.heap.size w w' := by
  have HK0 := Lib.hid (rkeywords w)
  obtain ⟨r, hr⟩ : ∃ r, decide (bl s ∈ rsT) = r := ⟨_, rfl⟩
  rw [hr]
  have HR := Lib.hid hr
  have H256 := Lib.hid rs_256
  clear hr
  go_enter Tryd.func21, Tryd.ntmps21
  go_wp2_with fail
  refine HK0.out.mono ?_
  rintro e W1 ⟨v, rfl, hrow, hb⟩
  obtain ⟨g, cap, rfl, hg, hSc⟩ := hrow.shape (by decide)
  have HB := Lib.hid hb
  obtain ⟨T, hTT⟩ : ∃ T, rsT = T := ⟨_, rfl⟩
  have hk46 : T.length ≤ 46 := by rw [← hTT]; decide
  rw [hTT] at HR H256 hSc ⊢
  have HSc := Lib.hid hSc
  obtain ⟨k, hk⟩ : ∃ k, T.length = k := ⟨_, rfl⟩
  rw [hk] at hk46 ⊢
  have HK := Lib.hid hk
  clear hrow hb hSc hTT hk HK0
  go_wp2_with fail
  go_loopw [4] (fun j wr => ∃ i : Nat, i ≤ k ∧ j = .int .i64 (i : Int) ∧ decide (bl s ∈ T.drop i) = r ∧ wr = W1) (fun j _ => k - (intOf j).toNat)
  case atStart => exact ⟨0, by omega, by first | trivial | rfl, by rw [List.drop_zero]; exact HR.out, rfl⟩
  case round =>
    obtain ⟨i, hi, rfl, hfnd, rfl⟩ := hrel
    by_cases hlt : i < k
    · have hi1 : (i : Int) < (k : Int) := by omega
      have hik : i < T.length := by rw [HK.out]; exact hlt
      have hc1 := HSc.out i hik
      have hdr := drop_getD hik
      have h256 := H256.out _ (getD_mem hik)
      obtain ⟨t, ht⟩ : ∃ t, T.getD i [] = t := ⟨_, rfl⟩
      rw [ht] at hc1 hdr h256
      have hse := str_eq t h256 s
      rw [hdr] at hfnd
      obtain ⟨tb, htb⟩ : ∃ tb, mk t = tb := ⟨_, rfl⟩
      rw [htb] at hc1 hse
      by_cases he : t = bl s
      · rw [decide_eq_true he] at hse
        have hrt : r = true := by rw [← hfnd, ← he]; simp
        subst hrt
        clear hdr h256 ht hfnd htb he hik HR
        go_wp2_with fail
        go_ret
        exact ⟨rfl, HB.out⟩
      · rw [decide_eq_false he] at hse
        have HFn := Lib.hid (show decide (bl s ∈ T.drop (i + 1)) = r by rw [← hfnd]; simp [Ne.symm he])
        clear hdr h256 ht hfnd htb he hik HR
        go_wp2_with fail
        go_roundw
        case rel => exact ⟨i + 1, by omega, by go_num, HFn.out, by first | rfl | trivial⟩
        case measure => simp [intOf]; omega
    · obtain rfl : i = k := by omega
      have e : T.drop i = [] := List.drop_eq_nil_of_le (by rw [HK.out]; exact Nat.le_refl _)
      have hrf : r = false := by rw [← hfnd, e]; simp
      subst hrf
      clear hfnd e hlt HR
      go_wp2_with fail
      go_ret
      exact ⟨rfl, HB.out⟩
set_option maxRecDepth 100000 in
theorem rname (s : ByteArray) (hs : s.size ≤ 1000000) (w : World) : Calls Tryd.prog 19 #[.string s] w fun e w' => e = .returned (.int .i64 (if nameB (bl s) && !decide (bl s ∈ rsT) then 0 else 8)) ∧ Below w.heap.size w w' := by
  have H1 := Lib.hid (rtext 0 (by decide) s hs)
  have H2 := Lib.hid (fun w => rreserved s w)
  rw [show fitB 0 (bl s) = nameB (bl s) from rfl] at H1
  obtain ⟨x, hx⟩ : ∃ x, nameB (bl s) = x := ⟨_, rfl⟩
  obtain ⟨y, hy⟩ : ∃ y, decide (bl s ∈ rsT) = y := ⟨_, rfl⟩
  rw [hx] at H1 ⊢
  rw [hy] at H2 ⊢
  clear hx hy hs
  cases x
  · go_enter Tryd.func19, Tryd.ntmps19
    go_wp2_with fail
    refine (H1.out _).mono ?_
    rintro e W1 ⟨rfl, hb⟩
    have B1 := Lib.hid hb
    clear hb
    go_wp2_with fail
    go_ret
    exact ⟨rfl, B1.out⟩
  · cases y
    all_goals
      go_enter Tryd.func19, Tryd.ntmps19
      go_wp2_with fail
      refine (H1.out _).mono ?_
      rintro e W1 ⟨rfl, hb⟩
      have B1 := Lib.hid hb
      clear hb
      go_wp2_with fail
      refine (H2.out _).mono ?_
      rintro e W2 ⟨rfl, hb⟩
      have B2 := Lib.hid (B1.out.trans (Joins.below_le hb B1.out.size))
      clear hb
      go_wp2_with fail
      go_ret
      exact ⟨rfl, B2.out⟩
set_option maxRecDepth 100000 in
set_option maxHeartbeats 4000000 in
theorem names_ok (s : ByteArray) (w : World) (hG : WG w) : Calls Tryd.prog 5 #[.string s] w fun e w' => e = .returned (.bool true) ∧ Below w.heap.size w w' := by
  have G := Lib.hid hG
  by_cases hl : 60 < s.size
  · have hl1 : (60 : Int) < (s.size : Int) := by omega
    clear hl hG
    go_enter Tryd.func5, Tryd.ntmps5
    go_wp2_with fail
    refine (awake_ok _ G.out).mono ?_
    rintro e W1 ⟨rfl, hb⟩
    have B := Lib.hid hb
    clear hb
    go_wp2_with fail
    go_ret
    exact ⟨rfl, B.out⟩
  · have hl1 : ¬ (60 : Int) < (s.size : Int) := by omega
    have HA := Lib.hid (fun W h => name_p s (by omega) W h)
    have HB := Lib.hid (fun W => rname s (by omega) W)
    have HC := Lib.hid (fun W h => reserved_p s W h)
    have HD := Lib.hid (fun W => rreserved s W)
    obtain ⟨x, hx⟩ : ∃ x : Int, (if nameB (bl s) && !decide (bl s ∈ rsT) then (0 : Int) else 8) = x := ⟨_, rfl⟩
    rw [hx] at HA HB
    obtain ⟨y, hy⟩ : ∃ y, decide (bl s ∈ rsT) = y := ⟨_, rfl⟩
    rw [hy] at HC HD
    clear hx hy hl hG
    go_enter Tryd.func5, Tryd.ntmps5
    go_wp2_with fail
    refine (awake_ok _ G.out).mono ?_
    rintro e W1 ⟨rfl, hb⟩
    have B1 := Lib.hid hb
    replace G := Lib.hid (G.out.below hb)
    clear hb
    go_wp2_with fail
    refine (HA.out _ G.out.rs).mono ?_
    rintro e w' ⟨rfl, rfl⟩
    go_wp2_with fail
    refine (HB.out _).mono ?_
    rintro e W2 ⟨rfl, hb⟩
    have B2 := Lib.hid (B1.out.trans (Joins.below_le hb B1.out.size))
    replace G := Lib.hid (G.out.below hb)
    clear hb B1
    go_wp2_with fail
    refine (HC.out _ G.out.rs).mono ?_
    rintro e w' ⟨rfl, rfl⟩
    go_wp2_with fail
    refine (HD.out _).mono ?_
    rintro e W3 ⟨rfl, hb⟩
    have B3 := Lib.hid (B2.out.trans (Joins.below_le hb B2.out.size))
    replace G := Lib.hid (G.out.below hb)
    clear hb B2
    go_wp2_with fail
    refine (keywords_p _ G.out.rs).mono ?_
    rintro e W4 ⟨v4, rfl, hr4, hb⟩
    have B4 := Lib.hid (B3.out.trans (Joins.below_le hb B3.out.size))
    have R4 := Lib.hid hr4
    clear hb hr4 B3
    go_wp2_with fail
    refine (rkeywords _).mono ?_
    rintro e W5 ⟨v5, rfl, hr5, hb⟩
    have B5 := Lib.hid (B4.out.trans (Joins.below_le hb B4.out.size))
    obtain ⟨g4, c4, rfl, hg4, hc4⟩ := (R4.out.below hb).shape (by decide)
    obtain ⟨g5, c5, rfl, hg5, hc5⟩ := hr5.shape (by decide)
    have HSm := Lib.hid (samewords_ok rsT (by decide) (by decide) g4 g5 c4 c5 _ hc4 hc5)
    clear hb hr5 B4 hc4 hc5
    go_wp2_with fail
    refine HSm.out.mono ?_
    rintro e W6 ⟨rfl, hb⟩
    have B6 := Lib.hid (B5.out.trans (Joins.below_le hb B5.out.size))
    clear hb B5
    go_wp2_with fail
    go_ret
    exact ⟨rfl, B6.out⟩

end Go.Proofs.YtgckopicmobbgaaDoor
