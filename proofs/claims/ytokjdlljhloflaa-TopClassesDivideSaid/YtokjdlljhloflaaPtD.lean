/- labels: the different keys of n elements, numbered in the order in which they occur, for whatever closure. -/
import Derived.Test.YtokjdlljhloflaaPtC
import Derived.WalkKit
import Derived.WalkSpells
import Derived.WalkLawsBesides
import Derived.Handy
import Derived.Deep.QuietTactic
import Derived.BigQuiet
import Derived.Outline
import Derived.Laws.BitsAllLaws
import Derived.IntWalk
import Derived.Lib.SmallJoins
import Derived.Lib.Hide
import Derived.Deep.DeepCutAuto
import Derived.LoopTactic
import Derived.Deep.RegionWith
import Derived.Carry
namespace Go.Proofs.Ytokjdlljhloflaa
set_option linter.unusedVariables false
set_option linter.unusedSimpArgs false
open Go.RowKit Part

theorem infoI : (Try.prog.info? 3).map (fun i => (i.zero, i.size, i.bytes)) = some (some (.int .i64 0), 1, 8) := by kernel_rfl
theorem run_vec (n : Nat) (hn : n ≤ 65536) (w : World) : (Instr.makeSlice 22 (.int .i64 (n : Int)) (.int .i64 (n : Int))).run Try.prog w = .ok (.slice (some ⟨w.heap.size, 0, none⟩) n n) (w.alloc (.cells (vec n (fun _ => 0)) 3)) := by
  obtain ⟨i0, hi, hz0, hz1, hz2⟩ := info_parts infoI
  have hr := run_make (P := Try.prog) w 22 3 i0 (.int .i64 0) Try.underlying22 hi hz0 .i64 .i64 n n (by omega) (by omega) (by rw [hz2]; omega) (by omega)
  rw [hr, hz1]
  simp only [Int.toNat_natCast, Nat.mul_one]
  rw [← vec_made]
  rfl
theorem lab_at_ (K : Nat → Int × Int) (i : Nat) (h : K i ∈ ds K i) : ix (ds K i) (K i) = lab K i := by
  unfold lab ix
  rw [ds_succ, if_pos h]
/-- The labels of the first i places. -/
def lf (K : Nat → Int × Int) (i : Nat) : Nat → Int := fun j => if j < i then (lab K j : Int) else 0
theorem lf_step {K : Nat → Int × Int} {n i : Nat} (h : i < n) : vec n (updz (lf K i) i ((lab K i : Nat) : Int)) = vec n (lf K (i + 1)) :=
  vec_congr fun j _ => by
    unfold updz lf
    by_cases e : j = i
    · subst e; simp
    · rw [if_neg e]
      by_cases h1 : j < i
      · rw [if_pos h1, if_pos (by omega)]
      · rw [if_neg h1, if_neg (by omega)]
theorem lab_grown {w W1 w2 : World} {n i : Nat} {f : Nat → Int} {x y : Value} {pb : Option Nat} (hB : Box W1 (w.heap.size + 1) (vec n f) 3) (hi : i < n) (hs : w.heap.size + 2 ≤ W1.heap.size) (hk : Kept pb w.heap.size w W1)
    (hg : (W1.alloc (.cells #[x, y] 50)).grownBy w2 (some w.heap.size)) :
    (w2.cell? ⟨W1.heap.size, 0, none⟩ = some x ∧ w2.cell? ⟨W1.heap.size, 1, none⟩ = some y) ∧ Box w2 (w.heap.size + 1) (vec n f) 3 ∧ w2.cell? ⟨w.heap.size + 1, i, none⟩ = some (.int .i64 (f i)) ∧ w2.frozen? ⟨w.heap.size + 1, i, none⟩ = false ∧ Below w.heap.size W1 w2 ∧ W1.heap.size < w2.heap.size := by
  have hb := (hB.alloc (.cells #[x, y] 50)).grown hg (by simp)
  have hn := (Box.new W1 #[x, y] 50).grown hg (by intro e; have := Option.some.inj e; omega)
  refine ⟨⟨hn.cell 0, hn.cell 1⟩, hb, (hb.cell i).trans (vec_get _ hi), hb.open_ i, ?_, ?_⟩
  · exact ((Below.refl _ _).alloc (by omega) _).grown hg (by simp; omega) (fun k e => by have := Option.some.inj e; omega)
  · have := hg.size; simp at this; omega
def LabRel (n : Nat) (K : Nat → Int × Int) (pb : Option Nat) (I : World → Prop) (w : World) (j : Value) (wr : World) : Prop :=
  ∃ (i : Nat) (D : DataW Unit), i ≤ n ∧ j = .int .i64 (i : Int) ∧ wr.ownsMap Try.prog 50 (plainElem Try.prog 3) w.heap.size i D ∧ Num D (ds K i) ∧ Box wr (w.heap.size + 1) (vec n (lf K i)) 3 ∧ I wr ∧ Kept pb w.heap.size w wr ∧ w.heap.size + 2 ≤ wr.heap.size
def LabRes (n : Nat) (K : Nat → Int × Int) (pb : Option Nat) (I : World → Prop) (w : World) (e : Ending) (w' : World) : Prop :=
  ∃ b, e = .returned (.slice (some ⟨b, 0, none⟩) n n) ∧ w.heap.size ≤ b ∧ Box w' b (vec n fun j => (lab K j : Int)) 3 ∧ I w' ∧ Kept pb w.heap.size w w'

set_option maxRecDepth 100000 in
set_option maxHeartbeats 4000000 in
theorem labels_meet (n : Nat) (hn : n ≤ 65536) (c0 c1 : Value) (K : Nat → Int × Int) (hK : ∀ i, i < n → Wf2 (K i)) (pb : Option Nat) (I : World → Prop) (w : World) (hp : ∀ k, pb = some k → k < w.heap.size)
    (hI : ∀ W W', I W → w.heap.size ≤ W.heap.size → Below w.heap.size W W' → I W') (h0 : I w)
    (hk : ∀ (i : Nat) W, i < n → I W → w.heap.size ≤ W.heap.size → Calls Try.prog 34 #[.int .i64 (i : Int), c0, c1] W fun e W' => e = .returned (.agg #[.int .i64 (K i).1, .int .i64 (K i).2]) ∧ I W' ∧ Kept pb W.heap.size W W') :
    Calls Try.prog 22 #[.int .i64 (n : Int), .func (.func 34) #[] #[c0, c1]] w (LabRes n K pb I w) := by
  have HK := Lib.hid hK
  have HP := Lib.hid hp
  have HI := Lib.hid hI
  have H0 := Lib.hid h0
  have HC := Lib.hid hk
  have hmk := fun w => run_vec n hn w
  have hmm := @run_makeMap Try.prog
  clear hK hp hI h0 hk
  go_enter Try.func22, Try.ntmps22
  go_wp2_with fail
  go_loopw [16] (fun j wr => LabRel n K pb I w j wr) (fun j _ => n - (intOf j).toNat)
  case atStart =>
    refine ⟨0, .map [], by omega, rfl, (World.ownsMap_made w Try.prog 50 _).alloc _, Num.nil, ?_, HI.out _ _ H0.out (Nat.le_refl _) ?_, Kept.of ?_, by simp⟩
    · have h := Box.new (w.alloc (.map #[] 0)) (vec n fun _ => 0) 3
      rw [World.size_alloc] at h
      exact (vec_congr (n := n) (f := fun _ => 0) (g := lf K 0) (fun i _ => by simp [lf])) ▸ h
    · exact ((Below.refl _ _).alloc (Nat.le_refl _) _).alloc (by simp) _
    · exact ((Below.refl _ _).alloc (Nat.le_refl _) _).alloc (by simp) _
  case round =>
    obtain ⟨i, D, hi, rfl, hown, hnum, hbox, hIw, hkept, hsz⟩ := hrel
    have HO := Lib.hid hown
    have HN := Lib.hid hnum
    have HB := Lib.hid hbox
    have HII := Lib.hid hIw
    have HKe := Lib.hid hkept
    have HS := Lib.hid hsz
    clear hown hnum hbox hIw hkept hsz hmm hmk
    by_cases hlt : i < n
    · have HCi := Lib.hid (HC.out i wr hlt HII.out (by have := HS.out; omega))
      have HWf := Lib.hid (HK.out i hlt)
      go_wp2_with fail
      refine HCi.out.mono ?_
      rintro e W1 ⟨rfl, hI1, hk1⟩
      have HI1 := Lib.hid hI1
      have HK1 := Lib.hid hk1
      have HO1 : Hid (W1.ownsMap Try.prog 50 (plainElem Try.prog 3) w.heap.size i D) := Lib.hid (owns_block HO.out (hk1.block _ (by have := HS.out; omega) (fun e => by have := HP.out _ e.symm; omega)))
      have HB1 : Hid (Box W1 (w.heap.size + 1) (vec n (lf K i)) 3) := Lib.hid ((hk1.block _ HB.out.lt (fun e => by have := HP.out _ e.symm; omega)).trans HB.out)
      have HS1 : Hid (w.heap.size + 2 ≤ W1.heap.size) := Lib.hid (Nat.le_trans HS.out hk1.size)
      have HKe1 : Hid (Kept pb w.heap.size w W1) := Lib.hid (HKe.out.trans (hk1.le (by have := HS.out; omega)))
      clear hI1 hk1
      have hc1 : W1.cell? ⟨w.heap.size + 1, i, none⟩ = some (.int .i64 (lf K i i)) := (HB1.out.cell i).trans (vec_get _ hlt)
      have hf1 : W1.frozen? ⟨w.heap.size + 1, i, none⟩ = false := HB1.out.open_ i
      have hz1 : w.heap.size + 1 < W1.heap.size := by have := HS1.out; omega
      clear HCi HO HB HII HKe HC HK1
      by_cases hm : K i ∈ ds K i
      · have hh : Maps.has D (kl (K i)) = true := by rw [HN.out.has _ HWf.out]; exact decide_eq_true hm
        go_wp2_with (first
          | (at_lookup; refine wpList_lookup_own_ok_int _ rfl _ _ 60 rfl 50 3 .i64 law2 Try.underlying60 Try.underlying3 (zero3 _) w.heap.size i D rfl (HO1.out.alloc _) _ _ rfl (kl_some HWf.out) ?_; intro c hat hwc; have HAT := Lib.hid hat; clear hat)
          | (at_lookup; refine wpList_lookup_own_int _ rfl _ _ 60 rfl 50 3 .i64 law2 Try.underlying60 Try.underlying3 (zero3 _) w.heap.size i D rfl (HO1.out.alloc _) _ _ rfl (kl_some HWf.out) ?_; intro c2 hat2 hwc2; have HAT2 := Lib.hid hat2; clear hat2))
        go_roundw
        case rel =>
          have ec : c2 = ((lab K i : Nat) : Int) := by
            have h1 := HAT2.out.symm.trans (HN.out.at_ _ HWf.out hm)
            rw [lab_at_ K i hm] at h1
            simpa using h1
          subst ec
          have hds : ds K (i + 1) = ds K i := by rw [ds_succ, if_pos hm]
          have hb : Below w.heap.size W1 ((W1.setCell ⟨w.heap.size + 1, i, none⟩ (.int .i64 ((lab K i : Nat) : Int))).alloc (.cells #[.int .i64 (K i).1, .int .i64 (K i).2] 50)) := ((Below.refl _ _).setCell (by simp) _).alloc (by simp; omega) _
          exact ⟨i + 1, D, by omega, by go_num, ((HO1.out.setCell (a := ⟨w.heap.size + 1, i, none⟩) (by simp) _).alloc _).mono (by omega), hds ▸ HN.out, lf_step hlt ▸ (HB1.out.setv i _).alloc _, HI.out _ _ HI1.out (by omega) hb, HKe1.out.trans (Kept.of hb), by simp; omega⟩
        case measure => simp [intOf]; omega
      · have hh : Maps.has D (kl (K i)) = false := by rw [HN.out.has _ HWf.out]; exact decide_eq_false hm
        have HSZ := Lib.hid HN.out.size
        have hle : (ds K i).length ≤ i := HN.out.size ▸ HO1.out.size_le
        go_wp2_with (first
          | (at_lookup; refine wpList_lookup_own_ok_int _ rfl _ _ 60 rfl 50 3 .i64 law2 Try.underlying60 Try.underlying3 (zero3 _) w.heap.size i D rfl (HO1.out.alloc _) _ _ rfl (kl_some HWf.out) ?_; intro c hat hwc; have HAT := Lib.hid hat; clear hat)
          | (at_lookup; refine wpList_lookup_own_int _ rfl _ _ 60 rfl 50 3 .i64 law2 Try.underlying60 Try.underlying3 (zero3 _) w.heap.size (i + 1) (D.put (kl (K i)) (.lit (.int .i64 ((ds K i).length : Nat)))) rfl HOW2.out _ _ rfl (kl_some HWf.out) ?_; intro c2 hat2 hwc2; have HAT2 := Lib.hid hat2; clear hat2)
          | (at_len; refine wpList_len_own _ rfl _ 60 rfl 50 3 Try.underlying60 _ w.heap.size i D rfl (HO1.out.alloc _) ?_)
          | (at_mapUpdate; refine wpList_mapUpdate_own _ rfl _ _ _ 60 rfl 50 3 law2 Try.underlying60 (plainElem Try.prog 3) w.heap.size i D rfl (HO1.out.alloc _) (by unfold maxLen; omega) _ _ _ rfl rfl (kl_some HWf.out) _ [] (plainElem_int Try.underlying3 (In64.wf (by have h1 := HSZ.out; unfold In64; omega))) ?_; intro w2 hown2 hgrow2; rw [HSZ.out] at hown2; have HOW2 := Lib.hid hown2; obtain ⟨ha, hb, hc2, hf2, hx2, hs2⟩ := lab_grown HB1.out hlt HS1.out HKe1.out hgrow2; have HB2 := Lib.hid hb; have HX2 := Lib.hid hx2; clear hown2 hgrow2 hb hx2))
        go_roundw
        case rel =>
          have hds : ds K (i + 1) = ds K i ++ [K i] := by rw [ds_succ, if_neg hm]
          have hnew := HN.out.snoc HWf.out hm
          have ec : c2 = ((lab K i : Nat) : Int) := by
            have h1 := HAT2.out.symm.trans (hnew.at_ _ HWf.out (by simp))
            rw [ix_new hm, ← lab_new K hm] at h1
            simpa using h1
          subst ec
          have hb := HX2.out.setCell (p := ⟨w.heap.size + 1, i, none⟩) (by simp) (.int .i64 ((lab K i : Nat) : Int))
          exact ⟨i + 1, _, by omega, by go_num, HOW2.out.setCell (a := ⟨w.heap.size + 1, i, none⟩) (by simp) _, hds ▸ hnew, lf_step hlt ▸ HB2.out.setv i _, HI.out _ _ HI1.out (by omega) hb, HKe1.out.trans (Kept.of hb), by simp; omega⟩
        case measure => simp [intOf]; omega
    · have e : i = n := by omega
      subst e
      go_wp2_with fail
      go_ret
      exact ⟨_, rfl, by omega, vec_congr (n := i) (f := lf K i) (g := fun j => (lab K j : Int)) (fun j hj => by simp [lf, hj]) ▸ HB.out, HII.out, HKe.out⟩

set_option maxRecDepth 100000 in
set_option maxHeartbeats 4000000 in
theorem labels_join (n : Nat) (hn : n ≤ 65536) (c0 : Value) (K : Nat → Int × Int) (hK : ∀ i, i < n → Wf2 (K i)) (pb : Option Nat) (I : World → Prop) (w : World) (hp : ∀ k, pb = some k → k < w.heap.size)
    (hI : ∀ W W', I W → w.heap.size ≤ W.heap.size → Below w.heap.size W W' → I W') (h0 : I w)
    (hk : ∀ (i : Nat) W, i < n → I W → w.heap.size ≤ W.heap.size → Calls Try.prog 23 #[.int .i64 (i : Int), c0] W fun e W' => e = .returned (.agg #[.int .i64 (K i).1, .int .i64 (K i).2]) ∧ I W' ∧ Kept pb W.heap.size W W') :
    Calls Try.prog 22 #[.int .i64 (n : Int), .func (.func 23) #[] #[c0]] w (LabRes n K pb I w) := by
  have HK := Lib.hid hK
  have HP := Lib.hid hp
  have HI := Lib.hid hI
  have H0 := Lib.hid h0
  have HC := Lib.hid hk
  have hmk := fun w => run_vec n hn w
  have hmm := @run_makeMap Try.prog
  clear hK hp hI h0 hk
  go_enter Try.func22, Try.ntmps22
  go_wp2_with fail
  go_loopw [16] (fun j wr => LabRel n K pb I w j wr) (fun j _ => n - (intOf j).toNat)
  case atStart =>
    refine ⟨0, .map [], by omega, rfl, (World.ownsMap_made w Try.prog 50 _).alloc _, Num.nil, ?_, HI.out _ _ H0.out (Nat.le_refl _) ?_, Kept.of ?_, by simp⟩
    · have h := Box.new (w.alloc (.map #[] 0)) (vec n fun _ => 0) 3
      rw [World.size_alloc] at h
      exact (vec_congr (n := n) (f := fun _ => 0) (g := lf K 0) (fun i _ => by simp [lf])) ▸ h
    · exact ((Below.refl _ _).alloc (Nat.le_refl _) _).alloc (by simp) _
    · exact ((Below.refl _ _).alloc (Nat.le_refl _) _).alloc (by simp) _
  case round =>
    obtain ⟨i, D, hi, rfl, hown, hnum, hbox, hIw, hkept, hsz⟩ := hrel
    have HO := Lib.hid hown
    have HN := Lib.hid hnum
    have HB := Lib.hid hbox
    have HII := Lib.hid hIw
    have HKe := Lib.hid hkept
    have HS := Lib.hid hsz
    clear hown hnum hbox hIw hkept hsz hmm hmk
    by_cases hlt : i < n
    · have HCi := Lib.hid (HC.out i wr hlt HII.out (by have := HS.out; omega))
      have HWf := Lib.hid (HK.out i hlt)
      go_wp2_with fail
      refine HCi.out.mono ?_
      rintro e W1 ⟨rfl, hI1, hk1⟩
      have HI1 := Lib.hid hI1
      have HK1 := Lib.hid hk1
      have HO1 : Hid (W1.ownsMap Try.prog 50 (plainElem Try.prog 3) w.heap.size i D) := Lib.hid (owns_block HO.out (hk1.block _ (by have := HS.out; omega) (fun e => by have := HP.out _ e.symm; omega)))
      have HB1 : Hid (Box W1 (w.heap.size + 1) (vec n (lf K i)) 3) := Lib.hid ((hk1.block _ HB.out.lt (fun e => by have := HP.out _ e.symm; omega)).trans HB.out)
      have HS1 : Hid (w.heap.size + 2 ≤ W1.heap.size) := Lib.hid (Nat.le_trans HS.out hk1.size)
      have HKe1 : Hid (Kept pb w.heap.size w W1) := Lib.hid (HKe.out.trans (hk1.le (by have := HS.out; omega)))
      clear hI1 hk1
      have hc1 : W1.cell? ⟨w.heap.size + 1, i, none⟩ = some (.int .i64 (lf K i i)) := (HB1.out.cell i).trans (vec_get _ hlt)
      have hf1 : W1.frozen? ⟨w.heap.size + 1, i, none⟩ = false := HB1.out.open_ i
      have hz1 : w.heap.size + 1 < W1.heap.size := by have := HS1.out; omega
      clear HCi HO HB HII HKe HC HK1
      by_cases hm : K i ∈ ds K i
      · have hh : Maps.has D (kl (K i)) = true := by rw [HN.out.has _ HWf.out]; exact decide_eq_true hm
        go_wp2_with (first
          | (at_lookup; refine wpList_lookup_own_ok_int _ rfl _ _ 60 rfl 50 3 .i64 law2 Try.underlying60 Try.underlying3 (zero3 _) w.heap.size i D rfl (HO1.out.alloc _) _ _ rfl (kl_some HWf.out) ?_; intro c hat hwc; have HAT := Lib.hid hat; clear hat)
          | (at_lookup; refine wpList_lookup_own_int _ rfl _ _ 60 rfl 50 3 .i64 law2 Try.underlying60 Try.underlying3 (zero3 _) w.heap.size i D rfl (HO1.out.alloc _) _ _ rfl (kl_some HWf.out) ?_; intro c2 hat2 hwc2; have HAT2 := Lib.hid hat2; clear hat2))
        go_roundw
        case rel =>
          have ec : c2 = ((lab K i : Nat) : Int) := by
            have h1 := HAT2.out.symm.trans (HN.out.at_ _ HWf.out hm)
            rw [lab_at_ K i hm] at h1
            simpa using h1
          subst ec
          have hds : ds K (i + 1) = ds K i := by rw [ds_succ, if_pos hm]
          have hb : Below w.heap.size W1 ((W1.setCell ⟨w.heap.size + 1, i, none⟩ (.int .i64 ((lab K i : Nat) : Int))).alloc (.cells #[.int .i64 (K i).1, .int .i64 (K i).2] 50)) := ((Below.refl _ _).setCell (by simp) _).alloc (by simp; omega) _
          exact ⟨i + 1, D, by omega, by go_num, ((HO1.out.setCell (a := ⟨w.heap.size + 1, i, none⟩) (by simp) _).alloc _).mono (by omega), hds ▸ HN.out, lf_step hlt ▸ (HB1.out.setv i _).alloc _, HI.out _ _ HI1.out (by omega) hb, HKe1.out.trans (Kept.of hb), by simp; omega⟩
        case measure => simp [intOf]; omega
      · have hh : Maps.has D (kl (K i)) = false := by rw [HN.out.has _ HWf.out]; exact decide_eq_false hm
        have HSZ := Lib.hid HN.out.size
        have hle : (ds K i).length ≤ i := HN.out.size ▸ HO1.out.size_le
        go_wp2_with (first
          | (at_lookup; refine wpList_lookup_own_ok_int _ rfl _ _ 60 rfl 50 3 .i64 law2 Try.underlying60 Try.underlying3 (zero3 _) w.heap.size i D rfl (HO1.out.alloc _) _ _ rfl (kl_some HWf.out) ?_; intro c hat hwc; have HAT := Lib.hid hat; clear hat)
          | (at_lookup; refine wpList_lookup_own_int _ rfl _ _ 60 rfl 50 3 .i64 law2 Try.underlying60 Try.underlying3 (zero3 _) w.heap.size (i + 1) (D.put (kl (K i)) (.lit (.int .i64 ((ds K i).length : Nat)))) rfl HOW2.out _ _ rfl (kl_some HWf.out) ?_; intro c2 hat2 hwc2; have HAT2 := Lib.hid hat2; clear hat2)
          | (at_len; refine wpList_len_own _ rfl _ 60 rfl 50 3 Try.underlying60 _ w.heap.size i D rfl (HO1.out.alloc _) ?_)
          | (at_mapUpdate; refine wpList_mapUpdate_own _ rfl _ _ _ 60 rfl 50 3 law2 Try.underlying60 (plainElem Try.prog 3) w.heap.size i D rfl (HO1.out.alloc _) (by unfold maxLen; omega) _ _ _ rfl rfl (kl_some HWf.out) _ [] (plainElem_int Try.underlying3 (In64.wf (by have h1 := HSZ.out; unfold In64; omega))) ?_; intro w2 hown2 hgrow2; rw [HSZ.out] at hown2; have HOW2 := Lib.hid hown2; obtain ⟨ha, hb, hc2, hf2, hx2, hs2⟩ := lab_grown HB1.out hlt HS1.out HKe1.out hgrow2; have HB2 := Lib.hid hb; have HX2 := Lib.hid hx2; clear hown2 hgrow2 hb hx2))
        go_roundw
        case rel =>
          have hds : ds K (i + 1) = ds K i ++ [K i] := by rw [ds_succ, if_neg hm]
          have hnew := HN.out.snoc HWf.out hm
          have ec : c2 = ((lab K i : Nat) : Int) := by
            have h1 := HAT2.out.symm.trans (hnew.at_ _ HWf.out (by simp))
            rw [ix_new hm, ← lab_new K hm] at h1
            simpa using h1
          subst ec
          have hb := HX2.out.setCell (p := ⟨w.heap.size + 1, i, none⟩) (by simp) (.int .i64 ((lab K i : Nat) : Int))
          exact ⟨i + 1, _, by omega, by go_num, HOW2.out.setCell (a := ⟨w.heap.size + 1, i, none⟩) (by simp) _, hds ▸ hnew, lf_step hlt ▸ HB2.out.setv i _, HI.out _ _ HI1.out (by omega) hb, HKe1.out.trans (Kept.of hb), by simp; omega⟩
        case measure => simp [intOf]; omega
    · have e : i = n := by omega
      subst e
      go_wp2_with fail
      go_ret
      exact ⟨_, rfl, by omega, vec_congr (n := i) (f := lf K i) (g := fun j => (lab K j : Int)) (fun j hj => by simp [lf, hj]) ▸ HB.out, HII.out, HKe.out⟩
end Go.Proofs.Ytokjdlljhloflaa
