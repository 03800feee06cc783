/- Scan. -/
import Derived.Test.YtgckopicmobbgaaDoorLxE
import Derived.WalkKit
import Derived.WalkSpells
import Derived.WalkLawsBesides
import Derived.Handy
import Derived.Deep.QuietTactic
import Derived.BigQuiet
import Derived.Outline
import Derived.Laws.BitsAllLaws
import Derived.IntWalk
import Derived.Lib.SmallJoins
import Derived.Lib.Hide
import Derived.Deep.DeepCutAuto
import Derived.LoopTactic
import Derived.Deep.RegionWith
import Derived.Lib.ConvBytes
import Derived.OwnWalk
import Derived.Laws.MakeOwn
namespace Go.Proofs.YtgckopicmobbgaaDoor
set_option linter.unusedVariables false
set_option linter.unusedSimpArgs false
open Go.RowKit Lex

theorem next_any (s : ByteArray) (hs : s.size ≤ 1000000) (at0 : Nat) (hat : at0 < s.size) (w : World) (hT : StrTab w 1 sgT) : Calls Tryd.prog 40 #[.string s, .int .i64 (at0 : Int)] w (NextRes (nres ((bl s).drop at0) at0) w) := by
  rcases Nat.eq_zero_or_pos (hdN isWrd ((bl s).drop at0)) with h | h
  · exact next_sign s hs at0 hat w hT h
  · exact next_word s hs at0 hat w hT h
def tkCells (t : Tk) : List Value := [.int .i64 (t.kd : Int), .string (mk t.tx), .int .i64 (t.pl : Int)]
def flatT (l : List Tk) : List Value := l.flatMap tkCells
/-- A list of tokens of the call's own. -/
def RowT (w : World) (R : Nat) (v : Value) (l : List Tk) : Prop := w.ownsRow R 32 3 v l.length (flatT l)
theorem RowT.nil (w : World) (R : Nat) : RowT w R (.slice none 0 0) [] := World.ownsRow_nil _ _ _ _
theorem RowT.keep {w w' : World} {R : Nat} {v : Value} {l : List Tk} (h : RowT w R v l) (hk : ∀ k, R ≤ k → k < w.heap.size → w'.heap[k]? = w.heap[k]?) : RowT w' R v l := by
  refine ⟨h.1, ?_⟩
  rcases h.2 with h0 | ⟨g, cap, cur, h1, h2, h3, h4⟩
  · exact .inl h0
  · exact .inr ⟨g, cap, cur, h1, h2, (hk g h2 (Array.getElem?_eq_some_iff.1 h3).1).trans h3, h4⟩
theorem RowT.below {w w' : World} {R : Nat} {v : Value} {l : List Tk} (h : RowT w R v l) (hb : Below w.heap.size w w') : RowT w' R v l := h.keep fun k _ hk => hb.block k hk
theorem RowT.alloc {w : World} {R : Nat} {v : Value} {l : List Tk} (h : RowT w R v l) (o : Obj) : RowT (w.alloc o) R v l := h.below ((Below.refl _ _).alloc (Nat.le_refl _) o)
theorem RowT.less {w : World} {R R' : Nat} {v : Value} {l : List Tk} (h : RowT w R v l) (hR : R' ≤ R) : RowT w R' v l := by
  refine ⟨h.1, ?_⟩
  rcases h.2 with h0 | ⟨g, cap, cur, h1, h2, h3⟩
  · exact .inl h0
  · exact .inr ⟨g, cap, cur, h1, by omega, h3⟩
theorem flatT_snoc (l : List Tk) (t : Tk) : flatT (l ++ [t]) = flatT l ++ tkCells t := by simp [flatT]
theorem infoK : (Tryd.prog.info? 32).map (fun i => (i.zero, i.size, i.bytes)) = some (some (.agg #[.int .i64 0, .string { data := #[] }, .int .i64 0]), 3, 32) := by kernel_rfl
theorem newblock (w : World) (o : Obj) : (w.alloc o).heap[w.heap.size]? = some o := by
  show (w.heap.push _)[w.heap.size]? = _
  simp
/-- A token lies in a block of its own. -/
def TkAt (w : World) (b : Nat) (t : Tk) : Prop := w.heap[b]? = some (.cells #[.int .i64 (t.kd : Int), .string (mk t.tx), .int .i64 (t.pl : Int)] 32 (0, 0))
/-- append of a token. -/
theorem app_tk {ops : Array Oper} {rest : List Oper} {o : Oper} {a : Act} {Q : Exit → Act → World → Prop} (w : World) (hgd : o.guard = none) (s x : Operand)
    (ho : o.op = .call { callee := .builtin .append, args := #[s, x], argTypes := #[24, 24] })
    (R : Nat) (v : Value) (l : List Tk) (hs : a.eval s = v) (hrow : RowT w R v l) (b : Nat) (t : Tk) (hx : a.eval x = .slice (some ⟨b, 0, none⟩) 1 1) (hc0 : TkAt w b t) (hl : l.length ≤ 1000000) (hR : R ≤ w.heap.size)
    (h : ∀ (g cap : Nat) w', RowT w' R (.slice (some ⟨g, 0, none⟩) (l.length + 1) cap) (l ++ [t]) → Below R w w' → R ≤ g → (∀ k, k < w.heap.size → v.ownBlock ≠ some k → w'.heap[k]? = w.heap[k]?) → w.heap.size ≤ w'.heap.size → wpList Tryd.prog ops Q rest (a.put o.dst (.slice (some ⟨g, 0, none⟩) (l.length + 1) cap)) w') :
    wpList Tryd.prog ops Q (o :: rest) a w := by
  obtain ⟨i0, hi, hz0, hz1, hz2⟩ := info_parts infoK
  have hc : w.heap[b]? = some (.cells #[.int .i64 (t.kd : Int), .string (mk t.tx), .int .i64 (t.pl : Int)] 32 (0, 0)) := hc0
  refine wpList_append_own _ hgd s x 24 ho R 32 i0 (.agg #[.int .i64 0, .string { data := #[] }, .int .i64 0]) 3 32 Tryd.underlying24 hi hz0 hz1 hz2 rfl (by decide) v l.length (flatT l) hs hrow ⟨b, 0, none⟩ 1 1 (tkCells t) hx rfl ?_ ?_ ?_ ?_ hR ?_
  · intro j u hu
    have hcell : ∀ i, w.cell? ⟨b, i, none⟩ = (tkCells t)[i]? := fun i => by
      rw [Lib.cell_of_heap hc i]
      match i with
      | 0 => rfl
      | 1 => rfl
      | 2 => rfl
      | n + 3 => simp [tkCells]
    have ha : (⟨b, 0, none⟩ : Addr).add j = ⟨b, j, none⟩ := by by_cases h : j = 0 <;> simp [Addr.add, h]
    rw [ha, hcell, hu]
  · intro u hu
    simp [tkCells] at hu
    rcases hu with rfl | rfl | rfl <;> rfl
  · unfold maxLen; omega
  · omega
  · intro v' w1 hown hgrow hnil
    have hlen : RowT w1 R v' (l ++ [t]) := by
      unfold RowT
      rw [flatT_snoc, List.length_append]
      exact hown
    obtain ⟨g, cap, hv, hg⟩ : ∃ g cap, v' = .slice (some ⟨g, 0, none⟩) (l.length + 1) cap ∧ R ≤ g := by
      rcases hown.2 with ⟨_, h0⟩ | ⟨g, cap, cur, hv, hg, _⟩
      · omega
      · exact ⟨g, cap, hv, hg⟩
    subst hv
    exact h g cap w1 hlen ((Below.refl _ _).grown hgrow hR (fun k hk => (hrow.lt k hk).1)) hg (fun k hk hne => hgrow.block k hk (fun e => hne e.symm)) hgrow.size
/-- What Scan answers. -/
def SRes (r : List Tk × Nat × Nat) (w : World) (e : Ending) (w' : World) : Prop := ∃ v, e = .returned (.tuple #[v, .int .i64 (r.2.1 : Int), .int .i64 (r.2.2 : Int)]) ∧ RowT w' w.heap.size v r.1 ∧ Below w.heap.size w w'

set_option maxRecDepth 100000 in
set_option maxHeartbeats 4000000 in
theorem scan_any (s : ByteArray) (hs : s.size ≤ 1000000) (w : World) (hT : StrTab w 1 sgT) : Calls Tryd.prog 13 #[.string s] w (SRes (scanL (bl s)) w) := by
  have hlen := bl_len s
  by_cases hlong : 65536 < s.size
  · have HR := Lib.hid (show scanL (bl s) = ([], 0, 13) by unfold scanL; rw [hlen, if_pos hlong])
    have hl1 : (65536 : Int) < (s.size : Int) := by omega
    clear hlong hs hT hlen
    go_enter Tryd.func13, Tryd.ntmps13
    go_wp2_with fail
    exact bodyPost_ret (v := .tuple #[.slice none 0 0, .int .i64 0, .int .i64 13]) (by simp [results, Tryd.results13, go_sem]) rfl ⟨_, by rw [HR.out]; rfl, by rw [HR.out]; exact RowT.nil _ _, Below.refl _ _⟩
  have hl1 : ¬ (65536 : Int) < (s.size : Int) := by omega
  obtain ⟨r, hr⟩ : ∃ r, scanL (bl s) = r := ⟨_, rfl⟩
  rw [hr]
  unfold scanL at hr
  rw [hlen, if_neg hlong] at hr
  have HSk := Lib.hid (fun a ha w => skip_p s hs a ha w)
  have HNx := Lib.hid (fun a ha w hT => next_any s hs a ha w hT)
  have hsep := sepN_le false (bl s)
  rw [hlen] at hsep
  have HS0 := HSk.out 0 (by omega) w
  rw [List.drop_zero, Nat.zero_add] at HS0
  obtain ⟨q0, hq0⟩ : ∃ q0, sepN false (bl s) = q0 := ⟨_, rfl⟩
  rw [hq0] at hr hsep HS0
  have HR := Lib.hid hr
  have HS := Lib.hid HS0
  have HL := Lib.hid (show s.size ≤ 65536 by omega)
  have HSp := Lib.hid hsep
  have HT := Lib.hid hT
  clear hlong hr hsep hq0 hlen HS0 hT hs
  go_enter Tryd.func13, Tryd.ntmps13
  go_wp2_with fail
  refine HS.out.mono ?_
  rintro e w' ⟨rfl, rfl⟩
  go_wp2_with fail
  go_loopw [5, 6] (fun v j wr => ∃ (k q : Nat) (acc : List Tk), q ≤ s.size ∧ s.size - q ≤ k ∧ acc.length ≤ q ∧ j = .int .i64 (q : Int) ∧ RowT wr w.heap.size v acc ∧ Below w.heap.size w wr ∧ scanF k q ((bl s).drop q) acc = r) (fun _ j _ => s.size - (intOf j).toNat)
  case atStart => exact ⟨s.size, q0, [], HSp.out, by omega, by simp, by first | trivial | rfl, RowT.nil _ _, Below.refl _ _, HR.out⟩
  case round =>
    obtain ⟨k, q, acc, hq, hk, hacc, rfl, hrow, hbe, hsc⟩ := hrel
    have hl := HL.out
    by_cases hlt : q < s.size
    · have hq1 : (q : Int) < (s.size : Int) := by omega
      obtain ⟨k, rfl⟩ : ∃ k', k = k' + 1 := ⟨k - 1, by omega⟩
      have hDl : ((bl s).drop q).length = s.size - q := by rw [List.length_drop, bl_len]
      have hne : (bl s).drop q ≠ [] := by intro e; rw [e] at hDl; simp at hDl; omega
      have hnl := nxt_le ((bl s).drop q)
      have hN := HNx.out q hlt wr (HT.out.below hbe)
      have hdd : ∀ m, ((bl s).drop q).drop m = (bl s).drop (q + m) := fun m => by rw [List.drop_drop]
      have HNp := Lib.hid (nxt_pos ((bl s).drop q))
      by_cases herr : (nxt ((bl s).drop q)).2.2.2 = 0
      · rw [scanF_next hne herr] at hsc
        unfold nres at hN
        rw [if_pos herr] at hN
        have hpos := HNp.out herr
        rw [hdd] at hsc
        rw [hDl] at hnl
        obtain ⟨n, hn⟩ : ∃ n, (nxt ((bl s).drop q)).2.1 = n := ⟨_, rfl⟩
        obtain ⟨kd, hkd⟩ : ∃ kd, (nxt ((bl s).drop q)).1 = kd := ⟨_, rfl⟩
        rw [hn] at hsc hN hnl hpos
        rw [hkd] at hsc hN
        have hS2 := HSk.out (q + n) (by omega)
        have hsl := sepN_le false ((bl s).drop (q + n))
        rw [List.length_drop, bl_len] at hsl
        obtain ⟨tx, htx⟩ : ∃ tx, ((bl s).drop q).take n = tx := ⟨_, rfl⟩
        have htl : (mk tx).size = n := by rw [mk_size, ← htx, List.length_take, hDl]; omega
        rw [htx] at hsc hN
        obtain ⟨m, hm⟩ : ∃ m, sepN false ((bl s).drop (q + n)) = m := ⟨_, rfl⟩
        rw [hm] at hsc hS2 hsl
        rw [hdd] at hsc
        have HN := Lib.hid hN
        have HS2 := Lib.hid hS2
        have HSc := Lib.hid (show scanF k (q + n + m) ((bl s).drop (q + n + m)) (acc ++ [⟨kd, tx, q⟩]) = r by rw [Nat.add_assoc]; exact hsc)
        have HRow := Lib.hid hrow
        have HBe := Lib.hid hbe
        have HTl := Lib.hid htl
        have hb1 : (q : Int) + (n : Int) ≤ 65536 := by omega
        have hqn : (q : Int) + (n : Int) = ((q + n : Nat) : Int) := by omega
        have HQn := Lib.hid hqn
        obtain ⟨tb, htb⟩ : ∃ tb, mk tx = tb := ⟨_, rfl⟩
        have HTb := Lib.hid htb
        unfold tokV at HN
        rw [htb] at HN HTl
        clear hsc hN hne herr hDl hn hkd hS2 htx htl hm hrow hbe hdd hqn htb HNp
        go_wp2_with fail
        refine (HN.out).mono ?_
        rintro e W1 ⟨rfl, hb⟩
        have HB1 := Lib.hid (HBe.out.trans (Joins.below_le hb HBe.out.size))
        have HRow1 := Lib.hid (HRow.out.below hb)
        clear hb HN HRow
        have hls := (HTl.out)
        go_wp2_with (at_builtin; refine app_tk _ rfl _ _ rfl w.heap.size _ acc rfl ((HRow1.out.alloc _).alloc _) (W1.heap.size + 1) ⟨kd, tx, q⟩ rfl ?hbk (by omega) ?hRk ?_)
        case hbk =>
          have h := newblock (W1.alloc (.cells #[.int .i64 (kd : Int), .string tb, .int .i64 (q : Int)] 32)) (.cells #[.int .i64 (kd : Int), .string tb, .int .i64 (q : Int)] 32)
          have e : (W1.alloc (.cells #[.int .i64 (kd : Int), .string tb, .int .i64 (q : Int)] 32)).heap.size = W1.heap.size + 1 := by simp
          rw [e] at h
          show _ = some (Obj.cells #[.int .i64 (kd : Int), .string (mk tx), .int .i64 (q : Int)] 32 (0, 0))
          rw [HTb.out]
          exact h
        case hRk => have := HB1.out.size; simp at *; omega
        intro g cap w2 hr2 hb2 hg hkeep hsz
        have hbx : w2.heap[W1.heap.size]? = some (.cells #[.int .i64 (kd : Int), .string tb, .int .i64 (q : Int)] 32 (0, 0)) := by
          refine (hkeep W1.heap.size ?_ (fun e => ?_)).trans ((Lib.alloc_old _ _ _ ?_).trans (newblock _ _))
          · first | omega | (simp; omega)
          · have := (HRow1.out.lt _ e).2
            omega
          · first | omega | (simp; omega) | simp
        have d1 : w2.cell? ⟨W1.heap.size, 1, none⟩ = some (.string tb) := by rw [Lib.cell_of_heap hbx]; rfl
        have HR2 := Lib.hid hr2
        have HB2 := Lib.hid (((HB1.out.alloc HB1.out.size _).alloc (by have := HB1.out.size; simp; omega) _).trans hb2)
        clear hr2 hb2 hg hkeep hsz hbx
        go_wp2_with fail
        refine (HS2.out _).mono ?_
        rintro e w' ⟨rfl, rfl⟩
        go_wp2_with fail
        go_roundw
        case rel => exact ⟨k, q + n + m, acc ++ [⟨kd, tx, q⟩], by omega, by have := HTl.out; omega, by have := HTl.out; simp; omega, by first | rfl | go_num, HR2.out, HB2.out, HSc.out⟩
        case measure => simp [intOf]; omega
      · rw [scanF_err hne herr] at hsc
        unfold nres at hN
        rw [if_neg herr] at hN
        obtain ⟨o, ho⟩ : ∃ o, (nxt ((bl s).drop q)).2.2.1 = o := ⟨_, rfl⟩
        obtain ⟨c, hc⟩ : ∃ c, (nxt ((bl s).drop q)).2.2.2 = c := ⟨_, rfl⟩
        rw [ho, hc] at hsc hN
        rw [hc] at herr
        unfold tokV at hN
        have HN := Lib.hid hN
        have HSc := Lib.hid hsc
        have HBe := Lib.hid hbe
        have hc1 : ((c : Int) != 0) = true := by rw [bne_iff_ne]; omega
        have hc2 : ¬ (c : Int) = 0 := by omega
        clear hsc hN hne hnl hDl ho hc hrow hbe hdd HNp herr
        go_wp2_with fail
        refine (HN.out).mono ?_
        rintro e W1 ⟨rfl, hb⟩
        have HB1 := Lib.hid (HBe.out.trans (Joins.below_le hb HBe.out.size))
        clear hb HN
        go_wp2_with fail
        exact bodyPost_ret (v := .tuple #[.slice none 0 0, .int .i64 ((q + o : Nat) : Int), .int .i64 (c : Int)]) (by simp [results, Tryd.results13, go_sem]) rfl (by rw [← HSc.out]; exact ⟨_, rfl, RowT.nil _ _, HB1.out.alloc HB1.out.size _⟩)
    · obtain rfl : q = s.size := by omega
      have e : (bl s).drop s.size = [] := List.drop_eq_nil_of_le (by rw [bl_len]; exact Nat.le_refl _)
      rw [e, scanF_end] at hsc
      have HSc := Lib.hid hsc
      have HRow := Lib.hid hrow
      have HBe := Lib.hid hbe
      clear hsc hrow hbe e hlt
      go_wp2_with (at_builtin; refine app_tk _ rfl _ _ rfl w.heap.size _ acc rfl (HRow.out.alloc _) wr.heap.size ⟨3, [], s.size⟩ rfl ?hbk (by omega) ?hRk ?_)
      case hbk => exact newblock _ _
      case hRk => have := HBe.out.size; simp; omega
      intro g cap w2 hr2 hb2 hg hkeep hsz
      have HR2 := Lib.hid hr2
      have HB2 := Lib.hid ((HBe.out.alloc HBe.out.size _).trans hb2)
      clear hr2 hb2 hg hkeep hsz
      go_wp2_with fail
      exact bodyPost_ret (v := .tuple #[.slice (some ⟨g, 0, none⟩) (acc.length + 1) cap, .int .i64 0, .int .i64 0]) (by simp [results, Tryd.results13, go_sem]) rfl ⟨_, by rw [← HSc.out]; rfl, by rw [← HSc.out]; exact HR2.out, HB2.out⟩

end Go.Proofs.YtgckopicmobbgaaDoor
