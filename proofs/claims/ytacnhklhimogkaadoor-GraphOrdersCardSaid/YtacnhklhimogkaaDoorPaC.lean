/- graph.Parse for a text with at most five parts. -/
import Derived.Test.YtacnhklhimogkaaDoorPaB
import Derived.Test.YtacnhklhimogkaaDoorGcE
import Derived.Deep.DeepCutAuto
import Derived.Test.YtacnhklhimogkaaDoorGcB
import Derived.Test.YtacnhklhimogkaaDoorGrN
import Derived.Test.YtacnhklhimogkaaDoorPmA
import Derived.Test.YtacnhklhimogkaaDoorPmM
import Derived.Test.YtacnhklhimogkaaDoorPmD
import Derived.Test.YtacnhklhimogkaaDoorGrR
import Derived.Test.YtacnhklhimogkaaDoorTb
import Derived.LoopTactic
import Derived.Deep.RegionWith
import Derived.WalkKit
import Derived.WalkSpells
import Derived.WalkLawsBesides
import Derived.Handy
import Derived.Deep.QuietTactic
import Derived.BigQuiet
import Derived.Outline
import Derived.Laws.BitsAllLaws
import Derived.IntWalk
import Derived.Lib.SmallJoins
import Derived.Lib.Hide
namespace Go.Proofs.YtacnhklhimogkaaDoor
set_option linter.unusedVariables false
set_option linter.unusedSimpArgs false
open Go.RowKit

theorem split_size (sep : ByteArray) : ∀ k s, ∀ x ∈ Lib.splitB sep 0 k s, x.size ≤ s.size
  | 0, s, x, hx => by
    rw [Lib.splitB_zero, List.mem_singleton] at hx
    rw [hx]; exact Nat.le_refl _
  | k + 1, s, x, hx => by
    unfold Lib.splitB at hx
    split at hx
    · rw [List.mem_singleton] at hx
      rw [hx]; exact Nat.le_refl _
    · rcases List.mem_cons.1 hx with hx | hx
      · rw [hx, ByteArray.size_extract]; omega
      · have := split_size sep k _ x hx
        rw [ByteArray.size_extract] at this
        omega

theorem part_cell (s : ByteArray) {p : Nat} (hp : p < npart s) : ((parts s).map Value.string).toArray[p]? = some (.string { data := ((parts s).getD p ⟨#[]⟩).data.toList.toArray }) := by
  have hl : p < (parts s).length := by rw [parts_len]; exact hp
  rw [List.getElem?_toArray, List.getElem?_map, List.getElem?_eq_getElem hl, List.getD_eq_getElem?_getD, List.getElem?_eq_getElem hl]
  simp
theorem part_size (s : ByteArray) (hs : s.size < 4294967281) {p : Nat} (hp : p < npart s) : (((parts s).getD p ⟨#[]⟩).data.toList).length ≤ 4294967296 := by
  have hl : p < (parts s).length := by rw [parts_len]; exact hp
  rw [List.getD_eq_getElem?_getD, List.getElem?_eq_getElem hl]
  have h := split_size { data := #[32] } _ s _ (List.getElem_mem (l := parts s) hl)
  have e : ((parts s)[p].data.toList).length = (parts s)[p].size := Array.length_toList
  show ((parts s)[p].data.toList).length ≤ _
  omega
theorem pad_prt (s : ByteArray) (p : Nat) : pad (npart s) (fun p => ((prt s p : Nat) : Int)) p = ((prt s p : Nat) : Int) := by
  unfold pad
  by_cases h : p < npart s
  · rw [if_pos h]
  · rw [if_neg h, prt_off s (by omega)]; rfl

set_option maxRecDepth 100000 in
set_option maxHeartbeats 4000000 in
theorem parse_few (s : ByteArray) (m : Int) (w : World) (hw : 0 < w.heap.size) (hm : w.cell? ⟨0, 0, none⟩ = some (.int .i64 m)) (hs : s.size < 4294967281) (h5 : npart s ≤ 5) :
    Calls Tryd.prog 29 #[.string s] w fun e w' => ((IsText s ∧ e = .returned (.tuple #[gv (npart s) (prt s), .int .i64 0])) ∨ (¬ IsText s ∧ e = .returned (.tuple #[zg, .int .i64 4]))) ∧ Below w.heap.size w w' := by
  have HS : Hid (∀ W, W.cell? ⟨0, 0, none⟩ = some (.int .i64 m) → Calls Tryd.prog 58 #[.string s, .string { data := #[32] }] W fun e w' => e = .returned (.slice (some ⟨W.heap.size, 0, none⟩) (npart s) (npart s)) ∧ w' = W.alloc (.cells ((parts s).map Value.string).toArray 9)) := Lib.hid (fun W hW => Tryd.strings_Split s { data := #[32] } m W hs hW (by decide))
  have h1 : 1 ≤ npart s := by unfold npart; omega
  have HRow : Hid (∀ T W, Box W T #[.slice (some ⟨w.heap.size + 1, 0, none⟩) (npart s) (npart s)] 80 → Box W (w.heap.size + 1) ((parts s).map Value.string).toArray 9 → Calls Tryd.prog 38 #[.int .i64 (npart s : Int), .func (.func 59) #[] #[.pointer (some ⟨T, 0, none⟩)]] W fun e w' => e = .returned (gv (npart s) (prt s)) ∧ Below W.heap.size W w') := Lib.hid (fun T W hT hX => by
    refine (rowsB_any (npart s) ⟨h1, h5⟩ 59 _ (fun p => ((prt s p : Nat) : Int)) _ (fun args w => by kernel_rfl) ?_).mono ?_
    · intro p W' hp hW'
      refine (parse1_any W' T (w.heap.size + 1) p (npart s) (npart s) ((parts s).getD p ⟨#[]⟩).data.toList hp (by omega) (part_size s hs hp) ((hT.below hW' hT.lt).cell 0) ?_)
      exact ((hX.below hW' hX.lt).cell p).trans (part_cell s hp)
    · rintro e w' ⟨rfl, hb⟩
      rw [pad_prt, pad_prt, pad_prt, pad_prt, pad_prt]
      exact ⟨rfl, hb⟩)
  have HC := Lib.hid (fun W => gcheck_code (npart s : Int) _ (rng_prt s) W)
  have Hwf : Hid (gcode (npart s : Int) (fun p => ((prt s p : Nat) : Int)) = 0 → WF (npart s) (prt s)) := Lib.hid (fun h => by
    have := (wf_of' (gcode_zero h)).1
    simpa using this)
  have Hbad : Hid (gcode (npart s : Int) (fun p => ((prt s p : Nat) : Int)) ≠ 0 → ¬ IsText s) := Lib.hid (fun h ht => by
    have hw := wfi_of ht.2.1
    exact h (by unfold gcode; rw [if_pos hw]))
  have hcs := gcode_cases (npart s : Int) (fun p => ((prt s p : Nat) : Int))
  obtain ⟨c, ec⟩ : ∃ c, gcode (npart s : Int) (fun p => ((prt s p : Nat) : Int)) = c := ⟨_, rfl⟩
  rw [ec] at HC Hwf Hbad hcs
  have HT : Hid (∀ W, WF (npart s) (prt s) → Calls Tryd.prog 56 #[gv (npart s) (prt s)] W fun e w' => e = .returned (.string (gtx (npart s) (prt s))) ∧ Below W.heap.size W w') := Lib.hid (fun W h => text_ok _ _ h W)
  have Hyes : Hid (WF (npart s) (prt s) → gtx (npart s) (prt s) = s → IsText s) := Lib.hid (fun h1 h2 => ⟨h5, h1, h2⟩)
  have Hno : Hid (gtx (npart s) (prt s) ≠ s → ¬ IsText s) := Lib.hid (fun h1 h2 => h1 h2.2.2)
  obtain ⟨N, hN⟩ : ∃ N, npart s = N := ⟨_, rfl⟩
  obtain ⟨f, hf⟩ : ∃ f, prt s = f := ⟨_, rfl⟩
  rw [hN] at HS HRow HC Hwf HT Hyes Hno h1 h5 ⊢
  rw [hf] at HRow HC Hwf HT Hyes Hno ⊢
  have hn5 : (N : Int) ≤ 5 := by omega
  have hn1 : (1 : Int) ≤ (N : Int) := by omega
  clear ec hN hf hs
  go_enter Tryd.func29, Tryd.ntmps29
  go_wp2_with fail
  have B0 : Below w.heap.size w (w.alloc (.cells #[.int .i64 0, .int .i64 0, .int .i64 0, .int .i64 0, .int .i64 0, .int .i64 0] 24)) := (Below.refl _ _).alloc (Nat.le_refl _) _
  have XZ : Box (w.alloc (.cells #[.int .i64 0, .int .i64 0, .int .i64 0, .int .i64 0, .int .i64 0, .int .i64 0] 24)) w.heap.size #[.int .i64 0, .int .i64 0, .int .i64 0, .int .i64 0, .int .i64 0, .int .i64 0] 24 := Box.new w _ _
  refine (HS.out _ ((B0.cell (p := ⟨0, 0, none⟩) hw).trans hm)).mono ?_
  rintro e w1 ⟨rfl, hw1⟩
  have B1 : Below w.heap.size w w1 := by rw [hw1]; exact B0.alloc (by simp) _
  have X1 : Box w1 w.heap.size #[.int .i64 0, .int .i64 0, .int .i64 0, .int .i64 0, .int .i64 0, .int .i64 0] 24 := by rw [hw1]; exact XZ.alloc _
  have XS : Box w1 (w.heap.size + 1) ((parts s).map Value.string).toArray 9 := by rw [hw1]; exact Box.at_ (by simp) _ _
  clear hw1 XZ B0 HS hm hw
  have HX1 := Lib.hid X1
  have HXS := Lib.hid XS
  have hlZ := X1.lt
  clear X1 XS
  go_upto_region 4 with fail
  obtain ⟨v, hv⟩ : ∃ v, w1.alloc (.cells #[.slice (some ⟨w.heap.size + 1, 0, none⟩) N N] 80) = v := ⟨_, rfl⟩
  rw [hv]
  have BT : Box v w1.heap.size #[.slice (some ⟨w.heap.size + 1, 0, none⟩) N N] 80 := hv ▸ Box.new w1 _ _
  have BS : Box v (w.heap.size + 1) ((parts s).map Value.string).toArray 9 := hv ▸ HXS.out.alloc _
  have HX2 := Lib.hid (hv ▸ HX1.out.alloc _ : Box v w.heap.size #[.int .i64 0, .int .i64 0, .int .i64 0, .int .i64 0, .int .i64 0, .int .i64 0] 24)
  have HB2 := Lib.hid (hv ▸ B1.alloc B1.size _ : Below w.heap.size w v)
  obtain ⟨T, hT⟩ : ∃ T, w1.heap.size = T := ⟨_, rfl⟩
  rw [hT] at BT ⊢
  have hcT := BT.cell 0
  have hlT := BT.lt
  simp at hcT
  have HBT := Lib.hid BT
  have HBS := Lib.hid BS
  clear hv hT B1 HX1 HXS BT BS hlZ
  go_wp2_with fail
  refine (HRow.out T v HBT.out HBS.out).mono ?_
  rintro e w2 ⟨rfl, hb⟩
  have HB3 := Lib.hid (HB2.out.trans (Joins.below_le hb HB2.out.size))
  have HX3 := Lib.hid (HX2.out.below hb HX2.out.lt)
  clear hb HB2 HX2 HBT HBS hcT hlT HRow
  go_upto_region 5 with fail
  obtain ⟨u, hu⟩ : ∃ u, w2.alloc (.cells #[.int .i64 (N : Int), .int .i64 (f 0 : Int), .int .i64 (f 1 : Int), .int .i64 (f 2 : Int), .int .i64 (f 3 : Int), .int .i64 (f 4 : Int)] 24) = u := ⟨_, rfl⟩
  rw [hu]
  have BU : Box u w2.heap.size #[.int .i64 (N : Int), .int .i64 (f 0 : Int), .int .i64 (f 1 : Int), .int .i64 (f 2 : Int), .int .i64 (f 3 : Int), .int .i64 (f 4 : Int)] 24 := hu ▸ Box.new w2 _ _
  have HX4 := Lib.hid (hu ▸ HX3.out.alloc _ : Box u w.heap.size #[.int .i64 0, .int .i64 0, .int .i64 0, .int .i64 0, .int .i64 0, .int .i64 0] 24)
  have HB4 := Lib.hid (hu ▸ HB3.out.alloc HB3.out.size _ : Below w.heap.size w u)
  obtain ⟨U, hU⟩ : ∃ U, w2.heap.size = U := ⟨_, rfl⟩
  rw [hU] at BU ⊢
  have hlU := BU.lt
  obtain ⟨⟨y0, y1, y2, y3, y4, y5⟩, _⟩ := BU.six
  have HBU := Lib.hid BU
  clear hu hU HB3 HX3 BU
  go_wp2_with fail
  refine (HC.out _).mono ?_
  rintro e w3 ⟨rfl, hb⟩
  have BB := Lib.hid (HB4.out.trans (Joins.below_le hb HB4.out.size))
  have Z := Lib.hid (HX4.out.below hb HX4.out.lt)
  have HBV := Lib.hid (HBU.out.below hb HBU.out.lt)
  clear hb HB4 HX4 HBU y0 y1 y2 y3 y4 y5 hlU HC
  rcases hcs with rfl | rfl | rfl
  · have hwf := Hwf.out rfl
    obtain ⟨⟨y0, y1, y2, y3, y4, y5⟩, _⟩ := HBV.out.six
    have hlU := HBV.out.lt
    go_wp2_with fail
    refine (HT.out _ hwf).mono ?_
    rintro e w4 ⟨rfl, hb⟩
    have BB2 := Lib.hid (BB.out.trans (Joins.below_le hb BB.out.size))
    have Z2 := Lib.hid (Z.out.below hb Z.out.lt)
    have HBW := Lib.hid (HBV.out.below hb HBV.out.lt)
    clear hb BB Z HBV y0 y1 y2 y3 y4 y5 hlU
    by_cases heq : gtx N f = s
    · have hyes := Hyes.out hwf heq
      rw [heq]
      clear heq Hyes Hno HT Hwf Hbad
      obtain ⟨⟨y0, y1, y2, y3, y4, y5⟩, _⟩ := HBW.out.six
      have hlU := HBW.out.lt
      obtain ⟨⟨z0, z1, z2, z3, z4, z5⟩, zf0, zf1, zf2, zf3, zf4, zf5⟩ := Z2.out.six
      have hlz := Z2.out.lt
      go_wp2_with fail
      refine bodyPost_ret (v := .tuple #[gv N f, .int .i64 0]) (by simp [results, Tryd.results29, go_sem, z0, z1, z2, z3, z4, z5]) rfl ⟨.inl ⟨hyes, rfl⟩, ?_⟩
      have BE := BB2.out
      repeat' (first | (with_reducible exact BE) | (with_reducible refine Below.setCell ?_ ?_ _) | go_size)
    · have hno := Hno.out heq
      have hdd : (gtx N f).data ≠ s.data := fun e => heq (by
        generalize gtx N f = a at e ⊢
        cases a; cases s; exact congrArg ByteArray.mk e)
      have hne4 : ((gtx N f).toList == s.toList) = false := by
        rw [beq_eq_false_iff_ne]
        intro e
        exact hdd (Array.toList_inj.1 (((ByteArray.toList_eq _).symm.trans e).trans (ByteArray.toList_eq _)))
      clear hdd heq
      clear Hyes Hno HT Hwf Hbad HBW
      obtain ⟨⟨z0, z1, z2, z3, z4, z5⟩, zf0, zf1, zf2, zf3, zf4, zf5⟩ := Z2.out.six
      have hlz := Z2.out.lt
      go_wp2_with fail
      refine bodyPost_ret (v := .tuple #[zg, .int .i64 4]) (by simp [results, Tryd.results29, go_sem, z0, z1, z2, z3, z4, z5]) rfl ⟨.inr ⟨hno, rfl⟩, ?_⟩
      have BE := BB2.out
      repeat' (first | (with_reducible exact BE) | (with_reducible refine Below.setCell ?_ ?_ _) | go_size)
  · have hno := Hbad.out (by decide)
    clear HBV
    obtain ⟨⟨z0, z1, z2, z3, z4, z5⟩, zf0, zf1, zf2, zf3, zf4, zf5⟩ := Z.out.six
    have hlz := Z.out.lt
    go_wp2_with fail
    refine bodyPost_ret (v := .tuple #[zg, .int .i64 4]) (by simp [results, Tryd.results29, go_sem, z0, z1, z2, z3, z4, z5]) rfl ⟨.inr ⟨hno, rfl⟩, ?_⟩
    have BE := BB.out
    repeat' (first | (with_reducible exact BE) | (with_reducible refine Below.setCell ?_ ?_ _) | go_size)
  · have hno := Hbad.out (by decide)
    clear HBV
    obtain ⟨⟨z0, z1, z2, z3, z4, z5⟩, zf0, zf1, zf2, zf3, zf4, zf5⟩ := Z.out.six
    have hlz := Z.out.lt
    go_wp2_with fail
    refine bodyPost_ret (v := .tuple #[zg, .int .i64 4]) (by simp [results, Tryd.results29, go_sem, z0, z1, z2, z3, z4, z5]) rfl ⟨.inr ⟨hno, rfl⟩, ?_⟩
    have BE := BB.out
    repeat' (first | (with_reducible exact BE) | (with_reducible refine Below.setCell ?_ ?_ _) | go_size)
end Go.Proofs.YtacnhklhimogkaaDoor
