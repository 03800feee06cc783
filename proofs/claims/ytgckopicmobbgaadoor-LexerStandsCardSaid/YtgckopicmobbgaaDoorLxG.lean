/- Names, reserved words, signs. -/
import Derived.Test.YtgckopicmobbgaaDoorLxE
import Derived.WalkKit
import Derived.WalkSpells
import Derived.WalkLawsBesides
import Derived.Handy
import Derived.Deep.QuietTactic
import Derived.BigQuiet
import Derived.Outline
import Derived.Laws.BitsAllLaws
import Derived.IntWalk
import Derived.Lib.SmallJoins
import Derived.Lib.Hide
import Derived.Deep.DeepCutAuto
import Derived.LoopTactic
import Derived.Deep.RegionWith
import Derived.Lib.ConvBytes
import Derived.OwnWalk
import Derived.Laws.MakeOwn
namespace Go.Proofs.YtgckopicmobbgaaDoor
set_option linter.unusedVariables false
set_option linter.unusedSimpArgs false
open Go.RowKit Lex

theorem str_eq (t : List Nat) (ht : ∀ c ∈ t, c < 256) (s : ByteArray) : ((mk t).toList == s.toList) = decide (t = bl s) := by
  rw [Bool.eq_iff_iff, beq_iff_eq, decide_eq_true_iff, ByteArray.toList_eq, ByteArray.toList_eq]
  constructor
  · intro h
    have e : mk t = s := by
      cases hm : mk t
      cases s
      rw [hm] at h
      simp at h
      rw [h]
    rw [← e, bl_mk ht]
  · intro h
    rw [h, mk_bl]

set_option maxRecDepth 100000 in
set_option maxHeartbeats 1000000 in
theorem reserved_p (s : ByteArray) (w : World) (hT : StrTab w 0 rsT) : Calls Tryd.prog 20 #[.string s] w fun e w' => e = .returned (.bool (decide (bl s ∈ rsT))) ∧ w = w' := by
  obtain ⟨r, hr⟩ : ∃ r, decide (bl s ∈ rsT) = r := ⟨_, rfl⟩
  rw [hr]
  have HR := Lib.hid hr
  have H256 := Lib.hid rs_256
  have HGl := hT.lt
  obtain ⟨bS, oS, cS, hg0, hbS, hSc⟩ := hT.row
  have HSc := Lib.hid hSc
  obtain ⟨T, hTT⟩ : ∃ T, rsT = T := ⟨_, rfl⟩
  rw [hTT] at HR H256 HSc hg0
  obtain ⟨k, hk⟩ : ∃ k, T.length = k := ⟨_, rfl⟩
  rw [hk] at hg0
  have HK := Lib.hid hk
  have hk46 : k ≤ 46 := by rw [← hk, ← hTT]; decide
  clear hr hT hSc hTT hk
  go_enter Tryd.func20, Tryd.ntmps20
  go_wp2_with fail
  go_loopw [7] (fun j wr => ∃ i : Nat, i ≤ k ∧ j = .int .i64 (i : Int) ∧ decide (bl s ∈ T.drop i) = r ∧ wr = w) (fun j _ => k - (intOf j).toNat)
  case atStart => exact ⟨0, by omega, by first | trivial | rfl, by rw [List.drop_zero]; exact HR.out, rfl⟩
  case round =>
    obtain ⟨i, hi, rfl, hfnd, rfl⟩ := hrel
    by_cases hlt : i < k
    · have hi1 : (i : Int) < (k : Int) := by omega
      have hik : i < T.length := by rw [HK.out]; exact hlt
      have hc1 := HSc.out i hik
      have hdr := drop_getD hik
      have h256 := H256.out _ (getD_mem hik)
      obtain ⟨t, ht⟩ : ∃ t, T.getD i [] = t := ⟨_, rfl⟩
      rw [ht] at hc1 hdr h256
      have hse := str_eq t h256 s
      rw [hdr] at hfnd
      obtain ⟨tb, htb⟩ : ∃ tb, mk t = tb := ⟨_, rfl⟩
      rw [htb] at hc1 hse
      by_cases he : t = bl s
      · rw [decide_eq_true he] at hse
        have hrt : r = true := by rw [← hfnd, ← he]; simp
        subst hrt
        clear hdr h256 ht hfnd htb he hik HR
        go_wp2_with fail
        go_ret
        exact ⟨rfl, rfl⟩
      · rw [decide_eq_false he] at hse
        have HFn := Lib.hid (show decide (bl s ∈ T.drop (i + 1)) = r by rw [← hfnd]; simp [Ne.symm he])
        clear hdr h256 ht hfnd htb he hik HR
        go_wp2_with fail
        go_roundw
        case rel => exact ⟨i + 1, by omega, by go_num, HFn.out, by first | rfl | trivial⟩
        case measure => simp [intOf]; omega
    · obtain rfl : i = k := by omega
      have e : T.drop i = [] := List.drop_eq_nil_of_le (by rw [HK.out]; exact Nat.le_refl _)
      have hrf : r = false := by rw [← hfnd, e]; simp
      subst hrf
      clear hfnd e hlt HR
      go_wp2_with fail
      go_ret
      exact ⟨rfl, rfl⟩

set_option maxRecDepth 100000 in
set_option maxHeartbeats 1000000 in
theorem isSign_p (s : ByteArray) (w : World) (hT : StrTab w 1 sgT) : Calls Tryd.prog 79 #[.string s] w fun e w' => e = .returned (.bool (decide (bl s ∈ sgT))) ∧ w = w' := by
  obtain ⟨r, hr⟩ : ∃ r, decide (bl s ∈ sgT) = r := ⟨_, rfl⟩
  rw [hr]
  have HR := Lib.hid hr
  have H256 := Lib.hid sgT_256
  have HGl := hT.lt
  obtain ⟨bS, oS, cS, hg0, hbS, hSc⟩ := hT.row
  have HSc := Lib.hid hSc
  obtain ⟨T, hTT⟩ : ∃ T, sgT = T := ⟨_, rfl⟩
  rw [hTT] at HR H256 HSc hg0
  obtain ⟨k, hk⟩ : ∃ k, T.length = k := ⟨_, rfl⟩
  rw [hk] at hg0
  have HK := Lib.hid hk
  have hk46 : k ≤ 46 := by rw [← hk, ← hTT]; decide
  clear hr hT hSc hTT hk
  go_enter Tryd.func79, Tryd.ntmps79
  go_wp2_with fail
  go_loopw [7] (fun j wr => ∃ i : Nat, i ≤ k ∧ j = .int .i64 (i : Int) ∧ decide (bl s ∈ T.drop i) = r ∧ wr = w) (fun j _ => k - (intOf j).toNat)
  case atStart => exact ⟨0, by omega, by first | trivial | rfl, by rw [List.drop_zero]; exact HR.out, rfl⟩
  case round =>
    obtain ⟨i, hi, rfl, hfnd, rfl⟩ := hrel
    by_cases hlt : i < k
    · have hi1 : (i : Int) < (k : Int) := by omega
      have hik : i < T.length := by rw [HK.out]; exact hlt
      have hc1 := HSc.out i hik
      have hdr := drop_getD hik
      have h256 := H256.out _ (getD_mem hik)
      obtain ⟨t, ht⟩ : ∃ t, T.getD i [] = t := ⟨_, rfl⟩
      rw [ht] at hc1 hdr h256
      have hse := str_eq t h256 s
      rw [hdr] at hfnd
      obtain ⟨tb, htb⟩ : ∃ tb, mk t = tb := ⟨_, rfl⟩
      rw [htb] at hc1 hse
      by_cases he : t = bl s
      · rw [decide_eq_true he] at hse
        have hrt : r = true := by rw [← hfnd, ← he]; simp
        subst hrt
        clear hdr h256 ht hfnd htb he hik HR
        go_wp2_with fail
        go_ret
        exact ⟨rfl, rfl⟩
      · rw [decide_eq_false he] at hse
        have HFn := Lib.hid (show decide (bl s ∈ T.drop (i + 1)) = r by rw [← hfnd]; simp [Ne.symm he])
        clear hdr h256 ht hfnd htb he hik HR
        go_wp2_with fail
        go_roundw
        case rel => exact ⟨i + 1, by omega, by go_num, HFn.out, by first | rfl | trivial⟩
        case measure => simp [intOf]; omega
    · obtain rfl : i = k := by omega
      have e : T.drop i = [] := List.drop_eq_nil_of_le (by rw [HK.out]; exact Nat.le_refl _)
      have hrf : r = false := by rw [← hfnd, e]; simp
      subst hrf
      clear hfnd e hlt HR
      go_wp2_with fail
      go_ret
      exact ⟨rfl, rfl⟩

set_option maxRecDepth 100000 in
theorem isName_p (s : ByteArray) (hs : s.size ≤ 1000000) (w : World) : Calls Tryd.prog 51 #[.string s] w fun e w' => e = .returned (.bool (nameB (bl s))) ∧ w = w' := by
  have HR := Lib.hid (run_wrd s hs w)
  obtain ⟨r, hr⟩ : ∃ r, nameB (bl s) = r := ⟨_, rfl⟩
  rw [hr]
  unfold nameB at hr
  have he := empty_iff s
  have hlen := bl_len s
  cases h0 : (bl s).isEmpty with
  | true =>
    rw [h0] at hr he
    have hr2 : r = false := by rw [← hr]; rfl
    subst hr2
    clear hr h0 hlen HR
    go_enter Tryd.func51, Tryd.ntmps51
    go_wp2_with fail
    go_ret
    exact ⟨rfl, rfl⟩
  | false =>
    rw [h0] at hr he
    rw [hlen] at hr
    by_cases h24 : s.size ≤ 24
    · rw [decide_eq_true h24] at hr
      have hs0 : 0 < s.size := by
        rcases Nat.eq_zero_or_pos s.size with h | h
        · have : bl s = [] := List.eq_nil_of_length_eq_zero (by rw [hlen]; exact h)
          rw [this] at h0
          simp at h0
        · exact h
      have hb := bl_drop hs0
      rw [List.drop_zero] at hb
      have hc := (s[0]'hs0).toNat_lt
      obtain ⟨c, hcc⟩ : ∃ c, (s[0]'hs0).toNat = c := ⟨_, rfl⟩
      rw [hcc] at hb hc
      have HLt := Lib.hid (letter_p c hc)
      have hhd : (bl s).headD 0 = c := by rw [hb]; rfl
      rw [hhd] at hr
      have h24' : (s.size : Int) ≤ 24 := by omega
      cases hl : isLet c with
      | false =>
        rw [hl] at hr HLt
        have hr2 : r = false := by rw [← hr]; rfl
        subst hr2
        clear hr h0 hlen HR hb hhd hl hc
        go_enter Tryd.func51, Tryd.ntmps51
        go_wp2_with fail
        refine (HLt.out _).mono ?_
        rintro e w' ⟨rfl, rfl⟩
        go_wp2_with fail
        go_ret
        exact ⟨rfl, rfl⟩
      | true =>
        rw [hl] at hr HLt
        obtain ⟨n, hn⟩ : ∃ n, hdN isWrd (bl s) = n := ⟨_, rfl⟩
        rw [hn] at hr HR
        have hr2 : r = decide (n = s.size) := by rw [← hr]; simp
        subst hr2
        clear hr h0 hlen hb hhd hl hc hn
        go_enter Tryd.func51, Tryd.ntmps51
        go_wp2_with fail
        refine (HLt.out _).mono ?_
        rintro e w' ⟨rfl, rfl⟩
        go_wp2_with fail
        refine HR.out.mono ?_
        rintro e w' ⟨rfl, rfl⟩
        go_wp2_with fail
        go_ret
        exact ⟨ret_bool (by simp <;> omega), rfl⟩
    · rw [decide_eq_false h24] at hr
      have hr2 : r = false := by rw [← hr]; rfl
      subst hr2
      have h24' : ¬ (s.size : Int) ≤ 24 := by omega
      clear hr h0 hlen HR h24
      go_enter Tryd.func51, Tryd.ntmps51
      go_wp2_with fail
      go_ret
      exact ⟨rfl, rfl⟩
set_option maxRecDepth 100000 in
theorem name_p (s : ByteArray) (hs : s.size ≤ 1000000) (w : World) (hT : StrTab w 0 rsT) : Calls Tryd.prog 18 #[.string s] w fun e w' => e = .returned (.int .i64 (if nameB (bl s) && !decide (bl s ∈ rsT) then 0 else 8)) ∧ w = w' := by
  have H1 := Lib.hid (isName_p s hs)
  have H2 := Lib.hid (reserved_p s w hT)
  obtain ⟨x, hx⟩ : ∃ x, nameB (bl s) = x := ⟨_, rfl⟩
  obtain ⟨y, hy⟩ : ∃ y, decide (bl s ∈ rsT) = y := ⟨_, rfl⟩
  rw [hx] at H1 ⊢
  rw [hy] at H2 ⊢
  clear hx hy hT hs
  cases x
  · go_enter Tryd.func18, Tryd.ntmps18
    go_wp2_with fail
    refine (H1.out _).mono ?_
    rintro e w' ⟨rfl, rfl⟩
    go_wp2_with fail
    go_ret
    exact ⟨rfl, rfl⟩
  · cases y
    all_goals
      go_enter Tryd.func18, Tryd.ntmps18
      go_wp2_with fail
      refine (H1.out _).mono ?_
      rintro e w' ⟨rfl, rfl⟩
      go_wp2_with fail
      refine (H2.out).mono ?_
      rintro e w' ⟨rfl, rfl⟩
      go_wp2_with fail
      go_ret
      exact ⟨rfl, rfl⟩
/-- A list of strings of the call's own. -/
def strCl (l : List (List Nat)) : List Value := l.map fun t => Value.string (mk t)
def RowS (w : World) (R : Nat) (v : Value) (l : List (List Nat)) : Prop := w.ownsRow R 9 1 v l.length (strCl l)
theorem RowS.nil (w : World) (R : Nat) : RowS w R (.slice none 0 0) [] := World.ownsRow_nil _ _ _ _
theorem RowS.keep {w w' : World} {R : Nat} {v : Value} {l : List (List Nat)} (h : RowS w R v l) (hk : ∀ k, R ≤ k → k < w.heap.size → w'.heap[k]? = w.heap[k]?) : RowS w' R v l := by
  refine ⟨h.1, ?_⟩
  rcases h.2 with h0 | ⟨g, cap, cur, h1, h2, h3, h4⟩
  · exact .inl h0
  · exact .inr ⟨g, cap, cur, h1, h2, (hk g h2 (Array.getElem?_eq_some_iff.1 h3).1).trans h3, h4⟩
theorem RowS.below {w w' : World} {R : Nat} {v : Value} {l : List (List Nat)} (h : RowS w R v l) (hb : Below w.heap.size w w') : RowS w' R v l := h.keep fun k _ hk => hb.block k hk
theorem RowS.alloc {w : World} {R : Nat} {v : Value} {l : List (List Nat)} (h : RowS w R v l) (o : Obj) : RowS (w.alloc o) R v l := h.below ((Below.refl _ _).alloc (Nat.le_refl _) o)
theorem infoS : (Tryd.prog.info? 9).map (fun i => (i.zero, i.size, i.bytes)) = some (some (.string { data := #[] }), 1, 16) := by kernel_rfl
theorem app_str {ops : Array Oper} {rest : List Oper} {o : Oper} {a : Act} {Q : Exit → Act → World → Prop} (w : World) (hgd : o.guard = none) (s x : Operand)
    (ho : o.op = .call { callee := .builtin .append, args := #[s, x], argTypes := #[41, 41] })
    (R : Nat) (v : Value) (l : List (List Nat)) (hs : a.eval s = v) (hrow : RowS w R v l) (b : Nat) (t : List Nat) (hx : a.eval x = .slice (some ⟨b, 0, none⟩) 1 1) (hc : w.cell? ⟨b, 0, none⟩ = some (.string (mk t))) (hl : l.length ≤ 1000000) (hR : R ≤ w.heap.size)
    (h : ∀ (g cap : Nat) w', RowS w' R (.slice (some ⟨g, 0, none⟩) (l.length + 1) cap) (l ++ [t]) → Below R w w' → R ≤ g → wpList Tryd.prog ops Q rest (a.put o.dst (.slice (some ⟨g, 0, none⟩) (l.length + 1) cap)) w') :
    wpList Tryd.prog ops Q (o :: rest) a w := by
  obtain ⟨i0, hi, hz0, hz1, hz2⟩ := info_parts infoS
  refine wpList_append_own _ hgd s x 41 ho R 9 i0 (.string { data := #[] }) 1 16 Tryd.underlying41 hi hz0 hz1 hz2 rfl (by decide) v l.length (strCl l) hs hrow ⟨b, 0, none⟩ 1 1 [.string (mk t)] hx rfl ?_ ?_ ?_ ?_ hR ?_
  · intro j u hu
    match j, hu with
    | 0, hu => simp at hu; subst hu; simp [Addr.add]; exact hc
  · intro u hu; simp at hu; subst hu; rfl
  · unfold maxLen; omega
  · omega
  · intro v' w1 hown hgrow hnil
    have hlen : RowS w1 R v' (l ++ [t]) := by
      unfold RowS
      rw [List.length_append, show strCl (l ++ [t]) = strCl l ++ [.string (mk t)] by simp [strCl]]
      exact hown
    obtain ⟨g, cap, hv, hg⟩ : ∃ g cap, v' = .slice (some ⟨g, 0, none⟩) (l.length + 1) cap ∧ R ≤ g := by
      rcases hown.2 with ⟨_, h0⟩ | ⟨g, cap, cur, hv, hg, _⟩
      · omega
      · exact ⟨g, cap, hv, hg⟩
    subst hv
    exact h g cap w1 hlen ((Below.refl _ _).grown hgrow hR (fun k hk => (hrow.lt k hk).1)) hg
def KRes (l : List (List Nat)) (w : World) (e : Ending) (w' : World) : Prop := ∃ v, e = .returned v ∧ RowS w' w.heap.size v l ∧ Below w.heap.size w w'
set_option maxRecDepth 100000 in
set_option maxHeartbeats 1000000 in
theorem keywords_p (w : World) (hT : StrTab w 0 rsT) : Calls Tryd.prog 23 #[] w (KRes rsT w) := by
  have HTab := Lib.hid hT
  have HGl := hT.lt
  obtain ⟨bS, oS, cS, hg0, hbS, hSc⟩ := hT.row
  obtain ⟨T, hTT⟩ : ∃ T, rsT = T := ⟨_, rfl⟩
  rw [hTT] at HTab hSc hg0 ⊢
  have HSc := Lib.hid hSc
  obtain ⟨k, hk⟩ : ∃ k, T.length = k := ⟨_, rfl⟩
  rw [hk] at hg0
  have HK := Lib.hid hk
  have hk46 : k ≤ 46 := by rw [← hk, ← hTT]; decide
  clear hT hSc hTT hk
  go_enter Tryd.func23, Tryd.ntmps23
  go_wp2_with fail
  go_loopw [1, 6] (fun v j wr => ∃ i : Nat, i ≤ k ∧ j = .int .i64 (i : Int) ∧ RowS wr w.heap.size v (T.take i) ∧ Below w.heap.size w wr) (fun _ j _ => k - (intOf j).toNat)
  case atStart => exact ⟨0, by omega, by first | trivial | rfl, RowS.nil _ _, Below.refl _ _⟩
  case round =>
    obtain ⟨i, hi, rfl, hrow, hbe⟩ := hrel
    by_cases hlt : i < k
    · have hi1 : (i : Int) < (k : Int) := by omega
      have hik : i < T.length := by rw [HK.out]; exact hlt
      have hc1 := (hbe.cell (p := ⟨bS, oS + i, none⟩) hbS).trans (HSc.out i hik)
      have htk : T.take (i + 1) = T.take i ++ [T.getD i []] := by
        rw [List.take_succ_eq_append_getElem hik, List.getD_eq_getElem?_getD, List.getElem?_eq_getElem hik]
        rfl
      obtain ⟨t, ht⟩ : ∃ t, T.getD i [] = t := ⟨_, rfl⟩
      rw [ht] at hc1 htk
      have htl : (T.take i).length = i := by rw [List.length_take, HK.out]; omega
      have hbz : bS < wr.heap.size := Nat.lt_of_lt_of_le hbS hbe.size
      have HRow := Lib.hid hrow
      have HBe := Lib.hid hbe
      have HTk := Lib.hid htk
      have HTl := Lib.hid htl
      clear hrow hbe htk htl hik ht
      go_wp2_with (at_builtin; refine app_str _ rfl _ _ rfl w.heap.size _ (T.take i) rfl (HRow.out.alloc _) wr.heap.size t rfl ?hbk (by rw [HTl.out]; omega) ?hRk ?_)
      case hbk => exact World.cell?_alloc_mark _ #[_] 9 (0, 0) 0
      case hRk => have := HBe.out.size; simp; omega
      intro g cap w2 hr2 hb2 hg
      have HR2 := Lib.hid hr2
      have HB2 := Lib.hid ((HBe.out.alloc HBe.out.size _).trans hb2)
      clear hr2 hb2 hg
      go_wp2_with fail
      go_roundw
      case rel => exact ⟨i + 1, by omega, by go_num, by rw [HTk.out]; exact HR2.out, HB2.out⟩
      case measure => simp [intOf]; omega
    · obtain rfl : i = k := by omega
      have e : T.take i = T := List.take_of_length_le (by rw [HK.out]; exact Nat.le_refl _)
      rw [e] at hrow
      have HRow := Lib.hid hrow
      have HBe := Lib.hid hbe
      clear hrow hbe e hlt
      go_wp2_with fail
      exact bodyPost_ret (by simp [results, Tryd.results23, go_sem]) rfl ⟨_, rfl, HRow.out, HBe.out⟩

end Go.Proofs.YtgckopicmobbgaaDoor
