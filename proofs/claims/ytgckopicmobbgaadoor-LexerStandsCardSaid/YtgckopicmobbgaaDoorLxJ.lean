/- Join. -/
import Derived.Test.YtgckopicmobbgaaDoorLxH
import Derived.Test.YtgckopicmobbgaaDoorLxF
import Derived.Test.YtgckopicmobbgaaDoorLxB
import Derived.WalkKit
import Derived.WalkSpells
import Derived.WalkLawsBesides
import Derived.Handy
import Derived.Deep.QuietTactic
import Derived.BigQuiet
import Derived.Outline
import Derived.Laws.BitsAllLaws
import Derived.IntWalk
import Derived.Lib.SmallJoins
import Derived.Lib.Hide
import Derived.Deep.DeepCutAuto
import Derived.LoopTactic
import Derived.Deep.RegionWith
import Derived.Lib.ConvBytes
import Derived.OwnWalk
import Derived.Laws.MakeOwn
import Derived.Deep.RegionHeld3
namespace Go.Proofs.YtgckopicmobbgaaDoor
set_option linter.unusedVariables false
set_option linter.unusedSimpArgs false
open Go.RowKit Lex

/-- A token as it may come in. -/
structure Tj where
  kd : Int
  tx : List Nat
  pl : Int
instance : Inhabited Tj := ⟨⟨0, [], 0⟩⟩
def tjv (t : Tj) : Value := .agg #[.int .i64 t.kd, .string (mk t.tx), .int .i64 t.pl]
/-- A list of tokens lies in memory. -/
def Lt (w : World) (o : Option Addr) (l : List Tj) : Prop := 0 < l.length → ∃ b off, o = some ⟨b, off, none⟩ ∧ b < w.heap.size ∧ ∀ i, i < l.length → w.cell? ⟨b, off + i * 3, none⟩ = some (.int .i64 (l.getD i default).kd) ∧ w.cell? ⟨b, off + i * 3 + 1, none⟩ = some (.string (mk (l.getD i default).tx)) ∧ w.cell? ⟨b, off + i * 3 + 2, none⟩ = some (.int .i64 (l.getD i default).pl)
theorem Lt.below {w W : World} {o : Option Addr} {l : List Tj} (h : Lt w o l) (hb : Below w.heap.size w W) : Lt W o l := fun hn => by
  obtain ⟨b, off, e, hl, hc⟩ := h hn
  refine ⟨b, off, e, Nat.lt_of_lt_of_le hl hb.size, fun i hi => ?_⟩
  obtain ⟨h1, h2, h3⟩ := hc i hi
  exact ⟨(hb.cell (p := ⟨b, _, none⟩) hl).trans h1, (hb.cell (p := ⟨b, _, none⟩) hl).trans h2, (hb.cell (p := ⟨b, _, none⟩) hl).trans h3⟩
def badK (k : Int) : Bool := decide (k < 0) || decide (3 < k)
/-- The error of a list of tokens. -/
def chkJ : List Tj → Nat
  | [] => 0
  | t :: r => if badK t.kd then 1 else if !fitB t.kd.toNat t.tx then 3 else if t.kd = 3 ∧ r ≠ [] then 14 else chkJ r
theorem chkJ_cons (t : Tj) (r : List Tj) : chkJ (t :: r) = if badK t.kd then 1 else if !fitB t.kd.toNat t.tx then 3 else if t.kd = 3 ∧ r ≠ [] then 14 else chkJ r := rfl
/-- The text of the first tokens. -/
def gapJ (l : List Tj) (i : Nat) : List Nat := if i ≠ 0 ∧ sepJ (l.getD (i - 1) default).kd.toNat (l.getD (i - 1) default).tx (l.getD i default).kd.toNat (l.getD i default).tx = true then [32] else []
def jt (l : List Tj) : Nat → List Nat
  | 0 => []
  | i + 1 => jt l i ++ gapJ l i ++ (l.getD i default).tx
def joinV (l : List Tj) : List Nat × Nat := if chkJ l = 0 then (jt l l.length, 0) else ([], chkJ l)
theorem jt_len (l : List Tj) (h : ∀ t ∈ l, t.tx.length ≤ 200) : ∀ i, i ≤ l.length → (jt l i).length ≤ 201 * i
  | 0, _ => by simp [jt]
  | i + 1, hi => by
    have ih := jt_len l h i (by omega)
    have h1 : (l.getD i default).tx.length ≤ 200 := by
      rw [List.getD_eq_getElem?_getD, List.getElem?_eq_getElem (by omega)]
      exact h _ (List.getElem_mem _)
    have h2 : (gapJ l i).length ≤ 1 := by unfold gapJ; split <;> simp
    show (jt l i ++ gapJ l i ++ (l.getD i default).tx).length ≤ _
    rw [List.length_append, List.length_append]
    omega
theorem dropJ {l : List Tj} {i : Nat} (h : i < l.length) : l.drop i = l.getD i default :: l.drop (i + 1) := by
  rw [List.drop_eq_getElem_cons h, List.getD_eq_getElem?_getD, List.getElem?_eq_getElem h]
  rfl
theorem memJ {l : List Tj} {i : Nat} (h : i < l.length) : l.getD i default ∈ l := by
  rw [List.getD_eq_getElem?_getD, List.getElem?_eq_getElem h]
  exact List.getElem_mem h
theorem badK_no {k : Int} (h : badK k = false) : 0 ≤ k ∧ k ≤ 3 := by
  unfold badK at h
  simp at h
  omega
/-- What well-formed lists hold. -/
theorem chkJ_all : ∀ (l : List Tj), chkJ l = 0 → ∀ t ∈ l, badK t.kd = false
  | [], _, t, ht => by simp at ht
  | a :: r, h, t, ht => by
    rw [chkJ_cons] at h
    cases hb : badK a.kd with
    | true => rw [hb, if_pos rfl] at h; cases h
    | false =>
      rw [hb, if_neg (by decide)] at h
      cases hf : fitB a.kd.toNat a.tx with
      | false => rw [hf] at h; cases h
      | true =>
        rw [hf, if_neg (by decide)] at h
        split at h
        · cases h
        · rcases List.mem_cons.1 ht with rfl | ht
          · exact hb
          · exact chkJ_all r h t ht
/-- A list of tokens that Join can take in: not too many, no too long texts of bytes. -/
structure FewJ (l : List Tj) : Prop where
  len : l.length ≤ 300
  tx : ∀ t ∈ l, t.tx.length ≤ 200
  byte : ∀ t ∈ l, ∀ c ∈ t.tx, c < 256
  kd : ∀ t ∈ l, -9223372036854775808 ≤ t.kd ∧ t.kd ≤ 9223372036854775807
theorem bd_new (w : World) : Bd w.heap.size w.heap.size (([] : List Nat).map UInt8.ofNat) (w.alloc (.cells #[.pointer none, .slice none 0 0] 73)) :=
  .inl ⟨Nat.le_refl _, .slice none 0 0, newblock _ _, World.ownsRow_nil _ _ _ _, by simp [Value.ownBlock]⟩
theorem below_dn {B : Nat} {w W : World} (n : Nat) (h : Below B w W) : Below B w (W.drewN n) := ⟨h.os, h.tape, h.output, h.size, h.block⟩
theorem own_keep {w w' : World} {B k : Nat} {e : TypeId} {v : Value} {n : Nat} {xs : List Value} (h : w.ownsRow B e k v n xs) (hk : ∀ q, B ≤ q → q < w.heap.size → w'.heap[q]? = w.heap[q]?) : w'.ownsRow B e k v n xs := by
  refine ⟨h.1, ?_⟩
  rcases h.2 with h0 | ⟨g, cap, cur, h1, h2, h3, h4⟩
  · exact .inl h0
  · exact .inr ⟨g, cap, cur, h1, h2, (hk g h2 (Array.getElem?_eq_some_iff.1 h3).1).trans h3, h4⟩
theorem at_keep {w w' : World} {B b : Nat} {p : Value} {xs : List Value} (h : Lib.BuilderAt 73 5 B b p xs w) (hb : Below w.heap.size w w') : Lib.BuilderAt 73 5 B b p xs w' := by
  obtain ⟨h1, v, h2, h3, h4⟩ := h
  exact ⟨h1, v, (hb.block b (lt_of_heap h2)).trans h2, own_keep h3 fun q _ hq => hb.block q hq, h4⟩
theorem Bd.below {w w' : World} {B b : Nat} {l : List UInt8} (h : Bd B b l w) (hb : Below w.heap.size w w') : Bd B b l w' := h.elim (fun h => .inl (at_keep h hb)) (fun h => .inr (at_keep h hb))
theorem wspace (B b : Nat) (l : List UInt8) (w : World) (h : Bd B b l w) (hlen : l.length ≤ 1000000) (hBw : B ≤ w.heap.size) : Calls Tryd.prog 45 #[.pointer (some ⟨b, 0, none⟩), .int .u8 32] w fun e w' => e = .returned .nilIface ∧ Bd B b (l ++ [32]) w' ∧ Below B w w' ∧ Oth b w w' := wbyte_any B b l 32 w h hlen hBw
theorem len_any (B b : Nat) (l : List UInt8) (w : World) (h : Bd B b l w) : Calls Tryd.prog 47 #[.pointer (some ⟨b, 0, none⟩)] w fun e w' => e = .returned (.int .i64 (l.length : Int)) ∧ w = w' := by
  refine (Tryd.Builder_Len B b _ w h).mono ?_
  rintro e w' ⟨rfl, rfl⟩
  exact ⟨by rw [Lib.byteCells_length], rfl⟩
theorem jt_bytes (l : List Tj) (q : Nat) : (jt l (q + 1)).map UInt8.ofNat = (jt l q).map UInt8.ofNat ++ (gapJ l q).map UInt8.ofNat ++ (mk (l.getD q default).tx).data.toList := by
  show (jt l q ++ gapJ l q ++ (l.getD q default).tx).map UInt8.ofNat = _
  rw [List.map_append, List.map_append]
  rfl
def JRes (r : List Nat × Nat) (w : World) (e : Ending) (w' : World) : Prop := e = .returned (.tuple #[.string (mk r.1), .int .i64 (r.2 : Int)]) ∧ Below w.heap.size w w'

set_option maxRecDepth 100000 in
set_option maxHeartbeats 8000000 in
theorem join_any (l : List Tj) (hl : FewJ l) (o : Option Addr) (cap : Nat) (w : World) (hL : Lt w o l) (hT : StrTab w 1 sgT) : Calls Tryd.prog 16 #[.slice o l.length cap] w (JRes (joinV l) w) := by
  have HL := Lib.hid hL
  have HT := Lib.hid hT
  have HF := Lib.hid hl
  have HFit := Lib.hid (fun k hk s hs p w hT => fits_p k hk s hs p w hT)
  obtain ⟨n, hn⟩ : ∃ n, l.length = n := ⟨_, rfl⟩
  have hn3 : n ≤ 300 := by rw [← hn]; exact hl.len
  have HN := Lib.hid hn
  have hn0 : ¬ (65536 : Int) < (n : Int) := by omega
  rw [hn]
  clear hL hT hl hn
  go_enter Tryd.func16, Tryd.ntmps16
  go_wp2_with fail
  go_loopw [14] (fun j wr => ∃ i : Nat, i ≤ n ∧ j = .int .i64 (i : Int) ∧ Below w.heap.size w wr ∧ chkJ (l.drop i) = chkJ l) (fun j _ => n - (intOf j).toNat)
  case atStart => exact ⟨0, by omega, by first | trivial | rfl, Below.refl _ _, by rw [List.drop_zero]⟩
  case round =>
    obtain ⟨i, hi, rfl, hbe, hck⟩ := hrel
    by_cases hlt : i < n
    · have hi1 : (i : Int) < (n : Int) := by omega
      have hil : i < l.length := by rw [HN.out]; exact hlt
      obtain ⟨bl_, of, rfl, hblt, hcl⟩ := (HL.out.below hbe) (by omega)
      obtain ⟨hc0, hc1, hc2⟩ := hcl i hil
      have hdr := dropJ hil
      have htx := HF.out.tx _ (memJ hil)
      have hby := HF.out.byte _ (memJ hil)
      have hkd := HF.out.kd _ (memJ hil)
      rw [hdr] at hck
      rw [chkJ_cons] at hck
      have hrn : l.drop (i + 1) ≠ [] ↔ i + 1 < n := by
        rw [← HN.out]
        constructor
        · intro h
          rcases Nat.lt_or_ge (i + 1) l.length with h2 | h2
          · exact h2
          · exact absurd (List.drop_eq_nil_of_le h2) h
        · intro h e
          have := congrArg List.length e
          rw [List.length_drop] at this
          simp at this
          omega
      obtain ⟨t, ht⟩ : ∃ t, l.getD i default = t := ⟨_, rfl⟩
      obtain ⟨kd, tx, pl⟩ := t
      rw [ht] at hc0 hc1 hc2 hck htx hby hkd
      dsimp only at hc0 hc1 hc2 hck htx hby hkd
      have hbm := bl_mk hby
      have hms : (mk tx).size ≤ 1000000 := by rw [mk_size]; omega
      obtain ⟨tb, htb⟩ : ∃ tb, mk tx = tb := ⟨_, rfl⟩
      rw [htb] at hc1 hbm hms
      have HBe := Lib.hid hbe
      have HRn := Lib.hid hrn
      have HCk := Lib.hid hck
      cases hbk : badK kd with
      | true =>
        have hck2 := HCk.out
        rw [hbk, if_pos rfl] at hck2
        have HC := Lib.hid hck2
        have hor : kd < 0 ∨ 3 < kd := by unfold badK at hbk; simpa using hbk
        clear hcl hdr htx hby hbm hms htb hbe hrn hck hbk hck2 ht hil HCk HRn
        rcases hor with h | h
        · go_wp2_with fail
          exact bodyPost_ret (v := .tuple #[.string { data := #[] }, .int .i64 1]) (by simp [results, Tryd.results16, go_sem]) rfl ⟨by unfold joinV; rw [← HC.out]; rfl, HBe.out.alloc HBe.out.size _⟩
        · have h0 : ¬ kd < 0 := by omega
          go_wp2_with fail
          exact bodyPost_ret (v := .tuple #[.string { data := #[] }, .int .i64 1]) (by simp [results, Tryd.results16, go_sem]) rfl ⟨by unfold joinV; rw [← HC.out]; rfl, HBe.out.alloc HBe.out.size _⟩
      | false =>
        have hk := badK_no hbk
        obtain ⟨k, rfl⟩ : ∃ k : Nat, kd = (k : Int) := ⟨kd.toNat, by omega⟩
        have hk3 : k ≤ 3 := by omega
        have hk0 : ¬ (k : Int) < 0 := by omega
        have hk4 : ¬ (3 : Int) < (k : Int) := by omega
        have hck2 := HCk.out
        rw [hbk, if_neg (by decide)] at hck2
        rw [show ((k : Int).toNat) = k from rfl] at hck2
        have hfit := HFit.out k hk3 tb hms pl
        rw [hbm] at hfit
        have HFt := Lib.hid hfit
        have HCk2 := Lib.hid hck2
        clear hcl hdr htx hby hbm hms htb hbe hrn hck hbk hck2 ht hil hfit HCk
        cases hf : fitB k tx with
        | false =>
          rw [hf] at HFt
          have hck2 := HCk2.out
          rw [hf] at hck2
          have HC := Lib.hid (show 3 = chkJ l from hck2)
          clear hck2 HCk2 hf HRn
          go_wp2_with fail
          refine (HFt.out _ (HT.out.below (HBe.out.alloc HBe.out.size _))).mono ?_
          rintro e W2 ⟨rfl, hb⟩
          have HB2 := Lib.hid ((HBe.out.alloc HBe.out.size (.cells #[.int .i64 (k : Int), .string tb, .int .i64 pl] 32)).trans (Joins.below_le hb (by have := HBe.out.size; simp; omega)))
          obtain ⟨hcc, hff⟩ := bcell hb
          clear hb
          go_wp2_with fail
          exact bodyPost_ret (v := .tuple #[.string { data := #[] }, .int .i64 3]) (by simp [results, Tryd.results16, go_sem]) rfl ⟨by unfold joinV; rw [← HC.out]; rfl, HB2.out⟩
        | true =>
          rw [hf] at HFt
          have hck2 := HCk2.out
          rw [hf, if_neg (by decide)] at hck2
          by_cases hend : k = 3 ∧ i + 1 < n
          · rw [if_pos ⟨by omega, HRn.out.2 hend.2⟩] at hck2
            have HC := Lib.hid hck2
            obtain ⟨rfl, he2⟩ := hend
            have hne : ¬ (i : Int) = (n : Int) - 1 := by omega
            have hne2 : ((i : Int) != (n : Int) - 1) = true := by rw [bne_iff_ne]; exact hne
            clear hck2 HCk2 hf HRn
            go_wp2_with fail
            refine (HFt.out _ (HT.out.below (HBe.out.alloc HBe.out.size _))).mono ?_
            rintro e W2 ⟨rfl, hb⟩
            have HB2 := Lib.hid ((HBe.out.alloc HBe.out.size (.cells #[.int .i64 ((3 : Nat) : Int), .string tb, .int .i64 pl] 32)).trans (Joins.below_le hb (by have := HBe.out.size; simp; omega)))
            obtain ⟨hcc, hff⟩ := bcell hb
            have hz : wr.heap.size < W2.heap.size := by have := hb.size; simp at this; omega
            clear hb
            go_wp2_with fail
            exact bodyPost_ret (v := .tuple #[.string { data := #[] }, .int .i64 14]) (by simp [results, Tryd.results16, go_sem]) rfl ⟨by unfold joinV; rw [← HC.out]; rfl, HB2.out⟩
          · have hck3 : chkJ (l.drop (i + 1)) = chkJ l := by
              rw [if_neg (fun h => hend ⟨by omega, HRn.out.1 h.2⟩)] at hck2
              exact hck2
            have HC := Lib.hid hck3
            clear hck2 HCk2 hf HRn hck3
            by_cases hk33 : k = 3
            · subst hk33
              have hne : (i : Int) = (n : Int) - 1 := by omega
              have hne2 : ((i : Int) != (n : Int) - 1) = false := by rw [bne_eq_false_iff_eq]; exact hne
              have HNe := Lib.hid hne
              clear hend hne
              go_wp2_with fail
              refine (HFt.out _ (HT.out.below (HBe.out.alloc HBe.out.size _))).mono ?_
              rintro e W2 ⟨rfl, hb⟩
              have HB2 := Lib.hid ((HBe.out.alloc HBe.out.size (.cells #[.int .i64 ((3 : Nat) : Int), .string tb, .int .i64 pl] 32)).trans (Joins.below_le hb (by have := HBe.out.size; simp; omega)))
              obtain ⟨hcc, hff⟩ := bcell hb
              have hz : wr.heap.size < W2.heap.size := by have := hb.size; simp at this; omega
              clear hb
              go_wp2_with fail
              go_roundw
              case rel => exact ⟨i + 1, by omega, by go_num, HB2.out, HC.out⟩
              case measure => simp [intOf]; omega
            · have hk5 : ((k : Int) == 3) = false := by rw [beq_eq_false_iff_ne]; omega
              have hk6 : ¬ (k : Int) = 3 := by omega
              clear hend hk33
              go_wp2_with fail
              refine (HFt.out _ (HT.out.below (HBe.out.alloc HBe.out.size _))).mono ?_
              rintro e W2 ⟨rfl, hb⟩
              have HB2 := Lib.hid ((HBe.out.alloc HBe.out.size (.cells #[.int .i64 (k : Int), .string tb, .int .i64 pl] 32)).trans (Joins.below_le hb (by have := HBe.out.size; simp; omega)))
              obtain ⟨hcc, hff⟩ := bcell hb
              have hz : wr.heap.size < W2.heap.size := by have := hb.size; simp at this; omega
              clear hb
              go_wp2_with fail
              go_roundw
              case rel => exact ⟨i + 1, by omega, by go_num, HB2.out, HC.out⟩
              case measure => simp [intOf]; omega
    · obtain rfl : i = n := by omega
      have hc0 : chkJ l = 0 := by
        rw [← hck, List.drop_eq_nil_of_le (by rw [HN.out]; exact Nat.le_refl _)]
        rfl
      have HC0 := Lib.hid hc0
      have HBad := Lib.hid (chkJ_all l hc0)
      have HJl := Lib.hid (jt_len l HF.out.tx)
      have HBe := Lib.hid hbe
      clear hbe hck hlt hc0 HFit
      go_wp2_with fail
      obtain ⟨W1, hW1⟩ : ∃ W1, W1 = wr := ⟨_, rfl⟩
      subst hW1
      have HB0 := Lib.hid (bd_new W1)
      go_loopw [43] (fun j wl => ∃ q : Nat, q ≤ i ∧ j = .int .i64 (q : Int) ∧ Below W1.heap.size W1 wl ∧ Bd W1.heap.size W1.heap.size ((jt l q).map UInt8.ofNat) wl) (fun j _ => i - (intOf j).toNat)
      case atStart => exact ⟨0, by omega, by first | trivial | rfl, (Below.refl _ _).alloc (Nat.le_refl _) _, HB0.out⟩
      case round =>
        obtain ⟨q, hq, rfl, hbe, hbd⟩ := hrel
        by_cases hlt : q < i
        · have hq1 : (q : Int) < (i : Int) := by omega
          have hql : q < l.length := by rw [HN.out]; exact hlt
          obtain ⟨bl_, of, rfl, hblt, hcl⟩ := (HL.out.below (HBe.out.trans (Joins.below_le hbe HBe.out.size))) (by omega)
          obtain ⟨hc0, hc1, hc2⟩ := hcl q hql
          have htx := HF.out.tx _ (memJ hql)
          have hby := HF.out.byte _ (memJ hql)
          have hbq := badK_no (HBad.out _ (memJ hql))
          have hjb := jt_bytes l q
          have hjl := HJl.out (q + 1) (by omega)
          have hjl0 := HJl.out q (by omega)
          obtain ⟨g, hg⟩ : ∃ g, gapJ l q = g := ⟨_, rfl⟩
          have HG := Lib.hid hg
          rw [hg] at hjb
          obtain ⟨t, ht⟩ : ∃ t, l.getD q default = t := ⟨_, rfl⟩
          have HTt := Lib.hid ht
          obtain ⟨kd, tx, pl⟩ := t
          rw [ht] at hc0 hc1 hc2 htx hby hbq hjb
          dsimp only at hc0 hc1 hc2 htx hby hbq hjb
          obtain ⟨k, rfl⟩ : ∃ k : Nat, kd = (k : Int) := ⟨kd.toNat, by omega⟩
          have hk3 : k ≤ 3 := by omega
          have hbm := bl_mk hby
          have hms : (mk tx).size ≤ 1000000 := by rw [mk_size]; omega
          obtain ⟨tb, htb⟩ : ∃ tb, mk tx = tb := ⟨_, rfl⟩
          rw [htb] at hc1 hbm hms hjb
          have HBm := Lib.hid hbm
          have HJb := Lib.hid hjb
          have HJl1 := Lib.hid hjl
          have HJl0 := Lib.hid hjl0
          have HBl := Lib.hid hbe
          have hs1 : W1.heap.size < wr.heap.size := hbd.elim (fun h => Lib.BuilderAt.lt h) (fun h => Lib.BuilderAt.lt h)
          have hprev : 0 < q → ∃ (kp : Nat) (tp : ByteArray) (pp : Int), kp ≤ 3 ∧ wr.cell? ⟨bl_, of + (q - 1) * 3, none⟩ = some (.int .i64 (kp : Int)) ∧ wr.cell? ⟨bl_, of + (q - 1) * 3 + 1, none⟩ = some (.string tp) ∧ wr.cell? ⟨bl_, of + (q - 1) * 3 + 2, none⟩ = some (.int .i64 pp) ∧ g = if sepJ kp (bl tp) k tx = true then [32] else [] := fun h0 => by
            have hpl : q - 1 < l.length := by omega
            obtain ⟨e0, e1, e2⟩ := hcl (q - 1) (by omega)
            have hbp := badK_no (HBad.out _ (memJ hpl))
            have hbyp := HF.out.byte _ (memJ hpl)
            refine ⟨(l.getD (q - 1) default).kd.toNat, mk (l.getD (q - 1) default).tx, (l.getD (q - 1) default).pl, by omega, ?_, e1, e2, ?_⟩
            · rw [e0]
              congr 2
              omega
            · rw [← HG.out, bl_mk hbyp]
              unfold gapJ
              rw [HTt.out]
              by_cases hs : sepJ (l.getD (q - 1) default).kd.toNat (l.getD (q - 1) default).tx k tx = true
              · rw [if_pos hs, if_pos ⟨by omega, hs⟩]
              · rw [if_neg hs, if_neg (fun h => hs h.2)]
          have hg0 : q = 0 → g = [] := fun h0 => by
            rw [← HG.out]
            unfold gapJ
            rw [if_neg (fun h => h.1 h0)]
          have HPrev := Lib.hid hprev
          have HG0 := Lib.hid hg0
          have HBd := Lib.hid hbd
          clear hcl htx hby hbq hjb hjl hjl0 hbm htb hbe hbd hprev hg0 hg ht hql
          have HLl := Lib.hid (show ((jt l q).map UInt8.ofNat).length ≤ 1000000 by rw [List.length_map]; have := HJl0.out; omega)
          by_cases hq0 : q = 0
          · subst hq0
            rw [Nat.zero_add] at HJb HJl1
            rw [Nat.zero_mul, Nat.add_zero] at hc0 hc1 hc2
            have hgn := HG0.out rfl
            subst hgn
            have HLn := Lib.hid (show ((((jt l 0).map UInt8.ofNat) ++ tb.data.toList).length : Int) = ((jt l 1).length : Int) by
              have h := congrArg List.length HJb.out
              rw [List.length_map, List.map_nil, List.append_nil] at h
              omega)
            have hl2 : ¬ (65536 : Int) < ((jt l 1).length : Int) := by have := HJl1.out; omega
            have HLl3 := HLl
            clear HG0 HPrev HG
            go_wp2_with fail
            have hal : Below wr.heap.size wr (wr.alloc (.cells #[.int .i64 (k : Int), .string tb, .int .i64 pl] 32)) := (Below.refl _ _).alloc (Nat.le_refl _) _
            have hbxn := newblock wr (.cells #[.int .i64 (k : Int), .string tb, .int .i64 pl] 32)
            have hszn : wr.heap.size < (wr.alloc (.cells #[.int .i64 (k : Int), .string tb, .int .i64 pl] 32)).heap.size := by rw [World.size_alloc]; omega
            obtain ⟨Wc, hWc⟩ : ∃ Wc, wr.alloc (.cells #[.int .i64 (k : Int), .string tb, .int .i64 pl] 32) = Wc := ⟨_, rfl⟩
            rw [hWc]
            rw [hWc] at hal hbxn hszn
            have HBdc := Lib.hid (HBd.out.below hal)
            have HBc := Lib.hid (HBl.out.trans (Joins.below_le hal HBl.out.size))
            have HBX := Lib.hid hs1
            obtain ⟨BX, hBX⟩ : ∃ BX, wr.heap.size = BX := ⟨_, rfl⟩
            rw [hBX] at hbxn hszn HBX
            have HBxc := Lib.hid hbxn
            have HBXc := Lib.hid hszn
            have hx : ∀ V, Below Wc.heap.size Wc V → V.cell? ⟨BX, 0, none⟩ = some (.int .i64 (k : Int)) ∧ V.cell? ⟨BX, 1, none⟩ = some (.string tb) ∧ V.cell? ⟨BX, 2, none⟩ = some (.int .i64 pl) := fun V hV => by
              have h := (hV.block BX HBXc.out).trans HBxc.out
              exact ⟨Lib.cell_of_heap h 0, Lib.cell_of_heap h 1, Lib.cell_of_heap h 2⟩
            have HZ := Lib.hid (fun V (hV : Below Wc.heap.size Wc V) => show Below Wc.heap.size Wc V ∧ V.cell? ⟨BX, 0, none⟩ = some (.int .i64 (k : Int)) ∧ V.cell? ⟨BX, 1, none⟩ = some (.string tb) ∧ V.cell? ⟨BX, 2, none⟩ = some (.int .i64 pl) from ⟨hV, hx V hV⟩)
            rw [hBX]
            clear hWc hal hbxn hszn hx hBX hc0 hc1 hc2
            go_cut [58] (fun x wx => x = .bool false ∧ Below Wc.heap.size Wc wx)
            case first =>
              first | (go_quiet (fail)) | fail
              all_goals
                go_wp2_with fail
                go_meet
                exact ⟨rfl, by first | assumption | exact below_dn 1 (by assumption) | exact below_dn _ (Below.refl _ _) | exact below_dn _ (by assumption)⟩
            case rest =>
              obtain ⟨rfl, hb⟩ := hcut
              have HBx2 := Lib.hid ((hb.block BX HBXc.out).trans HBxc.out)
              have HB2 := Lib.hid (HBc.out.trans (Joins.below_le hb HBc.out.size))
              have HBd2 := Lib.hid (HBdc.out.below hb)
              have HSz2 := Lib.hid HB2.out.size
              clear hb
              have HBx3 := HBx2
              have HB3 := HB2
              have HBd3 := HBd2
              have d1 := Lib.cell_of_heap HBx3.out 1
              simp at d1
              have HSz3 := Lib.hid (HB3.out.size)
              go_wp2_with fail
              refine (wstr_any W1.heap.size W1.heap.size _ tb _ HBd3.out HLl3.out hms HSz3.out).mono ?_
              rintro e W4 ⟨rfl, hbd4, hb4, _⟩
              have HBd4 := Lib.hid hbd4
              have HB4 := Lib.hid (HB3.out.trans hb4)
              clear hbd4 hb4 d1
              go_wp2_with fail
              refine (len_any W1.heap.size W1.heap.size _ _ HBd4.out).mono ?_
              rintro e w' ⟨rfl, rfl⟩
              rw [HLn.out]
              go_wp2_with fail
              go_roundw
              case rel => exact ⟨1, by omega, by go_num, HB4.out, by rw [HJb.out]; rw [List.map_nil, List.append_nil]; exact HBd4.out⟩
              case measure => simp [intOf]; omega
          · obtain ⟨kp, tp, pp, hkp, e0, e1, e2, hgv⟩ := HPrev.out (by omega)
            have hq00 : (0 : Int) < (q : Int) := by omega
            have hq01 : 0 < q := by omega
            obtain ⟨r, hr⟩ : ∃ r, q - 1 = r := ⟨_, rfl⟩
            rw [hr] at e0 e1 e2
            have hqw : IntKind.i64.wrap ((q : Int) - 1) = (r : Int) := by rw [IntWalk.i64_in _ (by omega)]; omega
            have hr0 : (0 : Int) ≤ (r : Int) := by omega
            have hri : (r : Int) < (i : Int) := by omega
            have hrn : r < i := by omega
            clear hr hq0
            have HTog := Lib.hid (fun W => together_p kp k hkp hk3 tp tb pp pl W)
            rw [HBm.out] at HTog
            obtain ⟨z, hz⟩ : ∃ z, sepJ kp (bl tp) k tx = z := ⟨_, rfl⟩
            rw [hz] at hgv HTog
            have hbl1 : bl_ < wr.heap.size := hblt
            clear HG0 HPrev HG hz
            go_wp2_with fail
            have hal : Below wr.heap.size wr (wr.alloc (.cells #[.int .i64 (k : Int), .string tb, .int .i64 pl] 32)) := (Below.refl _ _).alloc (Nat.le_refl _) _
            have hbxn := newblock wr (.cells #[.int .i64 (k : Int), .string tb, .int .i64 pl] 32)
            have hszn : wr.heap.size < (wr.alloc (.cells #[.int .i64 (k : Int), .string tb, .int .i64 pl] 32)).heap.size := by rw [World.size_alloc]; omega
            obtain ⟨Wc, hWc⟩ : ∃ Wc, wr.alloc (.cells #[.int .i64 (k : Int), .string tb, .int .i64 pl] 32) = Wc := ⟨_, rfl⟩
            rw [hWc]
            rw [hWc] at hal hbxn hszn
            have HBdc := Lib.hid (HBd.out.below hal)
            have HBc := Lib.hid (HBl.out.trans (Joins.below_le hal HBl.out.size))
            have HBX := Lib.hid hs1
            obtain ⟨BX, hBX⟩ : ∃ BX, wr.heap.size = BX := ⟨_, rfl⟩
            rw [hBX] at hbxn hszn HBX
            have HBxc := Lib.hid hbxn
            have HBXc := Lib.hid hszn
            have hx : ∀ V, Below Wc.heap.size Wc V → V.cell? ⟨BX, 0, none⟩ = some (.int .i64 (k : Int)) ∧ V.cell? ⟨BX, 1, none⟩ = some (.string tb) ∧ V.cell? ⟨BX, 2, none⟩ = some (.int .i64 pl) := fun V hV => by
              have h := (hV.block BX HBXc.out).trans HBxc.out
              exact ⟨Lib.cell_of_heap h 0, Lib.cell_of_heap h 1, Lib.cell_of_heap h 2⟩
            have hp : ∀ V, Below Wc.heap.size Wc V → V.cell? ⟨bl_, of + r * 3, none⟩ = some (.int .i64 (kp : Int)) ∧ V.cell? ⟨bl_, of + r * 3 + 1, none⟩ = some (.string tp) ∧ V.cell? ⟨bl_, of + r * 3 + 2, none⟩ = some (.int .i64 pp) := fun V hV => by
              have h2 := hal.trans (Joins.below_le hV hal.size)
              exact ⟨(h2.cell (p := ⟨bl_, _, none⟩) hbl1).trans e0, (h2.cell (p := ⟨bl_, _, none⟩) hbl1).trans e1, (h2.cell (p := ⟨bl_, _, none⟩) hbl1).trans e2⟩
            have HZ := Lib.hid (fun V (hV : Below Wc.heap.size Wc V) => show Below Wc.heap.size Wc V ∧ V.cell? ⟨bl_, of + r * 3, none⟩ = some (.int .i64 (kp : Int)) ∧ V.cell? ⟨bl_, of + r * 3 + 1, none⟩ = some (.string tp) ∧ V.cell? ⟨bl_, of + r * 3 + 2, none⟩ = some (.int .i64 pp) ∧ V.cell? ⟨BX, 0, none⟩ = some (.int .i64 (k : Int)) ∧ V.cell? ⟨BX, 1, none⟩ = some (.string tb) ∧ V.cell? ⟨BX, 2, none⟩ = some (.int .i64 pl) from ⟨hV, (hp V hV).1, (hp V hV).2.1, (hp V hV).2.2, hx V hV⟩)
            rw [hBX]
            clear hWc hal hbxn hszn hx hp hBX hc0 hc1 hc2 e0 e1 e2 hbl1
            go_cut [58] (fun x wx => x = .bool z ∧ Below Wc.heap.size Wc wx)
            case first =>
              go_region_held3 (fun V => Below Wc.heap.size Wc V ∧ V.cell? ⟨bl_, of + r * 3, none⟩ = some (.int .i64 (kp : Int)) ∧ V.cell? ⟨bl_, of + r * 3 + 1, none⟩ = some (.string tp) ∧ V.cell? ⟨bl_, of + r * 3 + 2, none⟩ = some (.int .i64 pp) ∧ V.cell? ⟨BX, 0, none⟩ = some (.int .i64 (k : Int)) ∧ V.cell? ⟨BX, 1, none⟩ = some (.string tb) ∧ V.cell? ⟨BX, 2, none⟩ = some (.int .i64 pl)) (first | exact HZ.out _ (below_dn 1 (Below.refl _ _)) | exact HZ.out _ (Below.refl _ _) | exact HZ.out _ (by assumption)) (first | (go_at_call 44; refine (HTog.out _).mono ?_; rintro e y ⟨rfl, hz⟩; have kk1 : Below Wc.heap.size Wc y := Below.trans (by first | assumption | exact And.left (by assumption) | exact Below.refl _ _ | exact below_dn 1 (Below.refl _ _)) (Joins.below_le hz (Below.size (by first | assumption | exact And.left (by assumption) | exact Below.refl _ _ | exact below_dn 1 (Below.refl _ _))))) | fail)
              all_goals
                go_wp2_with fail
                go_meet
                exact ⟨rfl, by first | assumption | exact below_dn 1 (by assumption) | exact below_dn 1 (Below.refl _ _)⟩
            case rest =>
              obtain ⟨rfl, hb⟩ := hcut
              have HBx2 := Lib.hid ((hb.block BX HBXc.out).trans HBxc.out)
              have HB2 := Lib.hid (HBc.out.trans (Joins.below_le hb HBc.out.size))
              have HBd2 := Lib.hid (HBdc.out.below hb)
              have HSz2 := Lib.hid HB2.out.size
              clear hb
              cases z with
              | false =>
                rw [if_neg (by decide)] at hgv
                subst hgv
                have HLn := Lib.hid (show ((((jt l q).map UInt8.ofNat) ++ tb.data.toList).length : Int) = ((jt l (q + 1)).length : Int) by
                  have h := congrArg List.length HJb.out
                  rw [List.length_map, List.map_nil, List.append_nil] at h
                  omega)
                have hl2 : ¬ (65536 : Int) < ((jt l (q + 1)).length : Int) := by have := HJl1.out; omega
                have HLl3 := HLl
                have HBx3 := HBx2
                have HB3 := HB2
                have HBd3 := HBd2
                have d1 := Lib.cell_of_heap HBx3.out 1
                simp at d1
                have HSz3 := Lib.hid (HB3.out.size)
                go_wp2_with fail
                refine (wstr_any W1.heap.size W1.heap.size _ tb _ HBd3.out HLl3.out hms HSz3.out).mono ?_
                rintro e W4 ⟨rfl, hbd4, hb4, _⟩
                have HBd4 := Lib.hid hbd4
                have HB4 := Lib.hid (HB3.out.trans hb4)
                clear hbd4 hb4 d1
                go_wp2_with fail
                refine (len_any W1.heap.size W1.heap.size _ _ HBd4.out).mono ?_
                rintro e w' ⟨rfl, rfl⟩
                rw [HLn.out]
                go_wp2_with fail
                go_roundw
                case rel => exact ⟨q + 1, by omega, by go_num, HB4.out, by rw [HJb.out]; rw [List.map_nil, List.append_nil]; exact HBd4.out⟩
                case measure => simp [intOf]; omega
              | true =>
                rw [if_pos rfl] at hgv
                subst hgv
                have HLn := Lib.hid (show (((((jt l q).map UInt8.ofNat) ++ [32]) ++ tb.data.toList).length : Int) = ((jt l (q + 1)).length : Int) by
                  have h := congrArg List.length HJb.out
                  rw [List.length_map] at h
                  rw [h]
                  rfl)
                have hl2 : ¬ (65536 : Int) < ((jt l (q + 1)).length : Int) := by have := HJl1.out; omega
                have HLl3 := Lib.hid (show (((jt l q).map UInt8.ofNat) ++ [32]).length ≤ 1000000 by have := HJl0.out; rw [List.length_append, List.length_map]; simp; omega)
                go_wp2_with fail
                refine (wspace W1.heap.size W1.heap.size _ _ HBd2.out HLl.out HSz2.out).mono ?_
                rintro e W3 ⟨rfl, hbd3, hb3, hoth⟩
                have HBx3 := Lib.hid (hoth _ _ _ _ (by have := HBX.out; omega) (by decide) HBx2.out)
                have HB3 := Lib.hid (HB2.out.trans hb3)
                have HBd3 := Lib.hid hbd3
                clear hbd3 hb3 hoth
                have d1 := Lib.cell_of_heap HBx3.out 1
                simp at d1
                have HSz3 := Lib.hid (HB3.out.size)
                go_wp2_with fail
                refine (wstr_any W1.heap.size W1.heap.size _ tb _ HBd3.out HLl3.out hms HSz3.out).mono ?_
                rintro e W4 ⟨rfl, hbd4, hb4, _⟩
                have HBd4 := Lib.hid hbd4
                have HB4 := Lib.hid (HB3.out.trans hb4)
                clear hbd4 hb4 d1
                go_wp2_with fail
                refine (len_any W1.heap.size W1.heap.size _ _ HBd4.out).mono ?_
                rintro e w' ⟨rfl, rfl⟩
                rw [HLn.out]
                go_wp2_with fail
                go_roundw
                case rel => exact ⟨q + 1, by omega, by go_num, HB4.out, by rw [HJb.out]; exact HBd4.out⟩
                case measure => simp [intOf]; omega
        · obtain rfl : q = i := by omega
          have HBl := Lib.hid hbe
          have HBd := Lib.hid hbd
          clear hbe hbd hlt
          go_wp2_with fail
          refine (Tryd.Builder_String_any W1.heap.size W1.heap.size _ _ HBd.out HBl.out.size).mono ?_
          rintro e W5 ⟨rfl, hb⟩
          have HB5 := Lib.hid (HBe.out.trans (Joins.below_le (HBl.out.trans hb) HBe.out.size))
          clear hb
          go_wp2_with fail
          exact bodyPost_ret (v := .tuple #[.string ⟨((jt l q).map UInt8.ofNat).toArray⟩, .int .i64 0]) (by simp [results, Tryd.results16, go_sem]) rfl ⟨by unfold joinV; rw [if_pos HC0.out, HN.out]; rfl, HB5.out⟩

end Go.Proofs.YtgckopicmobbgaaDoor
