/- The package's Transpose. -/
import Derived.Test.YtbefkngeffpokaaDoorMxI
import Derived.Test.YtbefkngeffpokaaDoorMxN
import Derived.WalkKit
import Derived.WalkSpells
import Derived.WalkLawsBesides
import Derived.Handy
import Derived.Deep.QuietTactic
import Derived.BigQuiet
import Derived.Outline
import Derived.Laws.BitsAllLaws
import Derived.IntWalk
import Derived.Lib.SmallJoins
import Derived.Lib.Hide
import Derived.Deep.DeepCutAuto
import Derived.LoopTactic
import Derived.Deep.RegionWith
import Derived.Laws.CopyOwn
import Derived.Maps.OwnOps
import Derived.Maps.OwnSet
import Derived.Laws.OwnMore
import Derived.Maps.AppendAt
import Derived.RangeFuncNested
import Derived.RangeFuncBound
import Derived.RangeFuncCalls
import Derived.RangeFuncLeaves
import Derived.RangeFuncBox
import Derived.RangeFuncFrom
import Derived.Shelf.Abstract
import Derived.Shelf.RegionOpen
import Derived.OwnWalkIn
import Derived.TacticsInMore
import Derived.LoopNIn
import Derived.LoopIn
import Derived.Deep.RegionHeld3
import Derived.RegionTactic
import Derived.ChangeAlike
import Derived.Deep.RegionLaw
import Derived.Deep.AppendLies
namespace Go.Proofs.YtbefkngeffpokaaDoor
set_option linter.unusedVariables false
set_option linter.unusedSimpArgs false
open Go.RowKit

/-- The rows lie in block B; each one is a row of the call's own, from block R on, and no two share one. -/
structure Cls (w : World) (R B k : Nat) (V : Nat → Value) (L : Nat → List Int) : Prop where
  box : Box w B (vcells k V) 25
  rows : ∀ c, c < k → Row w R (V c) (L c)
  apart : ∀ c d, c < k → d < k → c ≠ d → (V c).ownBlock = none ∨ (V c).ownBlock ≠ (V d).ownBlock
  lt : B < R
theorem Cls.alloc {w : World} {R B k : Nat} {V : Nat → Value} {L : Nat → List Int} (h : Cls w R B k V L) (o : Obj) : Cls (w.alloc o) R B k V L :=
  ⟨h.box.alloc o, fun c hc => (h.rows c hc).alloc o, h.apart, h.lt⟩
theorem Cls.step {w w' : World} {R B k x g cap m : Nat} {V : Nat → Value} {L L' : Nat → List Int} {l : List Int} (h : Cls w R B k V L) (hx : x < k) (hrow : Row w' R (.slice (some ⟨g, 0, none⟩) m cap) l) (hg : w.grownBy w' (V x).ownBlock) (hat : some g = (V x).ownBlock ∨ g = w.heap.size) (hl : L' x = l) (hL : ∀ c, c < k → c ≠ x → L' c = L c) :
    Cls (w'.setCell ⟨B, x, none⟩ (.slice (some ⟨g, 0, none⟩) m cap)) R B k (updv V x (.slice (some ⟨g, 0, none⟩) m cap)) L' := by
  have hBx : some B ≠ (V x).ownBlock := fun e => by
    have h1 := (h.rows x hx).ownLt B e.symm
    have h2 := h.lt
    omega
  have hob : (Value.slice (some ⟨g, 0, none⟩) m cap).ownBlock = some g := rfl
  have hother : ∀ c, c < k → c ≠ x → (V c).ownBlock = none ∨ (V c).ownBlock ≠ some g := fun c hc hcx => by
    rcases hat with e | e
    · rcases h.apart c x hc hx hcx with h1 | h1
      · exact .inl h1
      · exact .inr (by rw [e]; exact h1)
    · refine .inr fun e2 => ?_
      have := (h.rows c hc).ownLt g e2
      omega
  refine ⟨?_, ?_, ?_, h.lt⟩
  · have h1 := (h.box.grown hg hBx).set x (.slice (some ⟨g, 0, none⟩) m cap)
    rw [vcells_set] at h1
    exact h1
  · intro c hc
    unfold updv
    by_cases e : c = x
    · subst e
      rw [if_pos rfl, hl]
      exact hrow.set h.lt _
    · rw [if_neg e, hL c hc e]
      exact ((h.rows c hc).grown hg (h.apart c x hc hx e)).set h.lt _
  · intro c d hc hd hcd
    unfold updv
    by_cases e : c = x
    · subst e
      rw [if_pos rfl, if_neg (Ne.symm hcd)]
      right
      rw [hob]
      rcases hother d hd (Ne.symm hcd) with h1 | h1
      · rw [h1]; simp
      · exact Ne.symm h1
    · rw [if_neg e]
      by_cases e2 : d = x
      · subst e2
        rw [if_pos rfl, hob]
        exact hother c hc e
      · rw [if_neg e2]
        exact h.apart c d hc hd hcd
theorem Cls.ls {w : World} {R B k : Nat} {V : Nat → Value} {L : Nat → List Int} (h : Cls w R B k V L) : Ls w (some ⟨B, 0, none⟩) k L := fun hn => by
  refine ⟨B, 0, rfl, h.box.lt, fun c hc => ?_⟩
  obtain ⟨oc, cc, e, hl⟩ := (h.rows c hc).shape
  exact ⟨oc, cc, by rw [Nat.zero_add, h.box.cell, vcells_get _ hc, e], hl⟩
theorem two_boxes (W : World) (c1 c2 : Array Value) (t1 t2 : TypeId) : Box (((W.alloc (.cells c1 t1)).alloc (.cells c2 t2)).drew) W.heap.size c1 t1 ∧ Box (((W.alloc (.cells c1 t1)).alloc (.cells c2 t2)).drew) (W.heap.size + 1) c2 t2 ∧ (((W.alloc (.cells c1 t1)).alloc (.cells c2 t2)).drew).heap.size = W.heap.size + 2 ∧ Below W.heap.size W (((W.alloc (.cells c1 t1)).alloc (.cells c2 t2)).drew) := by
  refine ⟨(Box.new W c1 t1).alloc (.cells c2 t2), ?_, ?_, (((Below.refl _ _).alloc (Nat.le_refl _) _).alloc (by simp) _).drew⟩
  · have h := Box.new (W.alloc (.cells c1 t1)) c2 t2
    rw [World.size_alloc] at h
    exact h
  · show ((W.alloc (.cells c1 t1)).alloc (.cells c2 t2)).heap.size = _
    simp
theorem Cls.setOther {w : World} {R B k : Nat} {V : Nat → Value} {L : Nat → List Int} (h : Cls w R B k V L) {b i : Nat} (hb : b < R) (hne : B ≠ b) (x : Value) : Cls (w.setCell ⟨b, i, none⟩ x) R B k V L :=
  ⟨h.box.setOther hne x, fun c hc => (h.rows c hc).set hb x, h.apart, h.lt⟩
/-- A number of the call's own row is appended, at a step of a region that draws. -/
theorem step_int {ops : Array Oper} {o : Oper} {a : Act} {Kx : Act → World → Prop} {Q : Exit → Act → World → Prop} {E : Prop} (w : World) (hgd : o.guard = none) (s x : Operand)
    (ho : o.op = .call { callee := .builtin .append, args := #[s, x], argTypes := #[25, 25] })
    (R : Nat) (v : Value) (l : List Int) (m : Nat) (hm : l.length = m) (hs : a.eval s = v) (hrow : Row w R v l) (b : Nat) (z : Int) (hx : a.eval x = .slice (some ⟨b, 0, none⟩) 1 1) (hc : w.cell? ⟨b, 0, none⟩ = some (.int .i64 z)) (hl : m ≤ 1000000) (hR : R ≤ w.heap.size)
    (hn : ∀ (g cap : Nat) w', Row w' R (.slice (some ⟨g, 0, none⟩) (m + 1) cap) (l ++ [z]) → w.grownBy w' v.ownBlock → (some g = v.ownBlock ∨ g = w.heap.size) → Kx (a.put o.dst (.slice (some ⟨g, 0, none⟩) (m + 1) cap)) w') :
    if Region.wanted o (yielded ops a.tmps) = true then Oper.wp Tryd.prog o a w Kx Q else E := by
  subst hm
  obtain ⟨i0, hi, hz0, hz1, hz2⟩ := info_parts infoI
  refine step_append_lies w hgd s x 25 ho R 3 i0 (.int .i64 0) 1 8 Tryd.underlying25 hi hz0 hz1 hz2 rfl (by decide) v l.length (lsv l) hs hrow ⟨b, 0, none⟩ 1 1 [.int .i64 z] hx rfl ?_ ?_ (by decide) (by unfold maxLen; omega) (by omega) hR _ rfl ?_
  · intro j y hy
    match j, hy with
    | 0, hy => simp at hy; subst hy; exact hc
    | j + 1, hy => simp at hy
  · intro y hy; simp at hy; rw [hy]; rfl
  · intro g cap w' hown hgrow hat hlt
    refine hn g cap w' ?_ hgrow ?_
    · have e : lsv l ++ [.int .i64 z] = lsv (l ++ [z]) := by simp [lsv]
      unfold Row
      rw [List.length_append, List.length_singleton, ← e]
      exact hown
    · rcases hat with e | e
      · exact .inl e.symm
      · exact .inr e
/-- The row c of the transpose when the row i of the matrix has been read as far as j. -/
def tcj (r : Nat → Nat) (l : List Nat) (i j c : Nat) : List Int := ints (if c ∈ l.take j then tcl r c i ++ [i] else tcl r c i)
theorem take_getD {l : List Nat} {j : Nat} (h : j < l.length) : l.take (j + 1) = l.take j ++ [l.getD j 0] := by
  rw [List.take_add_one, List.getD_eq_getElem?_getD, List.getElem?_eq_getElem h]
  rfl
theorem tcj_fresh {l : List Nat} (hl : l.Pairwise (· < ·)) {j : Nat} (h : j < l.length) : l.getD j 0 ∉ l.take j := by
  intro hm
  have h2 : (l.take (j + 1)).Pairwise (· < ·) := hl.sublist (List.take_sublist _ _)
  rw [take_getD h, List.pairwise_append] at h2
  have := h2.2.2 _ hm _ (List.mem_singleton.2 rfl)
  omega
theorem tcj_old (r : Nat → Nat) {l : List Nat} (hl : l.Pairwise (· < ·)) (i : Nat) {j : Nat} (h : j < l.length) : tcj r l i j (l.getD j 0) = ints (tcl r (l.getD j 0) i) := by
  unfold tcj
  rw [if_neg (tcj_fresh hl h)]
theorem tcj_new (r : Nat → Nat) {l : List Nat} (hl : l.Pairwise (· < ·)) (i : Nat) {j : Nat} (h : j < l.length) : tcj r l i (j + 1) (l.getD j 0) = ints (tcl r (l.getD j 0) i) ++ [(i : Int)] := by
  unfold tcj
  rw [take_getD h, if_pos (by simp), ints_snoc]
theorem tcj_other (r : Nat → Nat) {l : List Nat} (i : Nat) {j c : Nat} (h : j < l.length) (hc : c ≠ l.getD j 0) : tcj r l i (j + 1) c = tcj r l i j c := by
  unfold tcj
  rw [take_getD h]
  congr 1
  simp only [List.mem_append, List.mem_singleton, hc, or_false]
theorem tcj_end (r : Nat → Nat) {C c : Nat} (hc : c < C) (i : Nat) : tcj r (el C (r i)) i (el C (r i)).length c = ints (tcl r c (i + 1)) := by
  unfold tcj
  rw [List.take_length, tcl_step]
  congr 1
  by_cases h : (r i).testBit c
  · rw [if_pos (el_mem.2 ⟨hc, h⟩), if_pos h]
  · rw [if_neg (fun h2 => h (el_mem.1 h2).2), if_neg h]
theorem Cls.drew {w : World} {R B k : Nat} {V : Nat → Value} {L : Nat → List Int} (h : Cls w R B k V L) : Cls w.drew R B k V L :=
  ⟨h.box, fun c hc => (h.rows c hc).below (below_dn 1 (Below.refl _ _)), h.apart, h.lt⟩
theorem Cls.congr {w : World} {R B k : Nat} {V : Nat → Value} {L L' : Nat → List Int} (h : Cls w R B k V L) (hL : ∀ c, c < k → L' c = L c) : Cls w R B k V L' :=
  ⟨h.box, fun c hc => by rw [hL c hc]; exact h.rows c hc, h.apart, h.lt⟩
set_option maxRecDepth 100000 in
set_option maxHeartbeats 4000000 in
theorem trans_good (C K : Nat) (hC : C ≤ 31) (hK : K ≤ 31) (r : Nat → Nat) (o : Option Addr) (cap : Nat) (w : World) (hM : Mx w o K C r) :
    Calls Tryd.prog 14 #[mv (C : Int) o K cap] w fun e w' => ∃ o' cap', e = .returned (.tuple #[mv (K : Int) o' C cap', .int .i64 0]) ∧ Mx w' o' C K (trr K r) ∧ Below w.heap.size w w' := by
  obtain ⟨f1, f2, f3⟩ := w2_facts w (C : Int) o K cap
  obtain ⟨S, hS⟩ : ∃ n, w.heap.size = n := ⟨_, rfl⟩
  have H := Lib.hid (check_mx C K (by omega) (by omega) r o cap _ (hM.below f1))
  have HM := Lib.hid hM
  have hmk := fun w => run_vecs C (by omega) w
  have HB := Lib.hid f1
  have HA := Lib.hid f2
  have HR := Lib.hid f3
  unfold mv at H ⊢
  clear hM f1 f2 f3
  go_enter Tryd.func14, Tryd.ntmps14
  go_wp2_with fail
  refine H.out.mono ?_
  rintro e W1 ⟨rfl, hb1⟩
  have hr1 := HR.out.below hb1 HR.out.lt
  have ha1 := HA.out.below hb1 HA.out.lt
  rw [hS] at hr1 ha1
  have q0 := ha1.cell 0
  have q1 := ha1.cell 1
  have HB1 := Lib.hid (HB.out.trans (Joins.below_le hb1 HB.out.size))
  have HR1 := Lib.hid hr1
  have HA1 := Lib.hid ha1
  have q2 : ∀ ob, (W1.alloc ob).cell? ⟨S, 0, none⟩ = some (.int .i64 (C : Int)) := fun ob => (ha1.alloc ob).cell 0
  have q3 : ∀ ob, (W1.alloc ob).cell? ⟨S, 1, none⟩ = some (.slice o K cap) := fun ob => (ha1.alloc ob).cell 1
  have q4 : ∀ ob ob2, ((W1.alloc ob).alloc ob2).cell? ⟨S, 0, none⟩ = some (.int .i64 (C : Int)) := fun ob ob2 => ((ha1.alloc ob).alloc ob2).cell 0
  have q5 : ∀ ob ob2, ((W1.alloc ob).alloc ob2).cell? ⟨S, 1, none⟩ = some (.slice o K cap) := fun ob ob2 => ((ha1.alloc ob).alloc ob2).cell 1
  clear hb1 hr1 ha1
  go_wp2_with fail
  go_cut [5] (fun t5 wx => ∃ B G, t5 = .pointer (some ⟨B, 0, none⟩) ∧ Box wx B #[.int .i64 (K : Int), .slice (some ⟨G, 0, none⟩) C C] 24 ∧ Box wx G (vcells C (fun _ => .slice none 0 0)) 25 ∧ B ≠ G ∧ W1.heap.size ≤ B ∧ W1.heap.size ≤ G ∧ wx.heap.size = W1.heap.size + 2 ∧ Below W1.heap.size W1 wx)
  case first =>
    go_region
    all_goals
      go_wp2_with fail
      go_meet
      first
        | exact ⟨_, _, rfl, (two_boxes W1 _ _ _ _).2.1, (two_boxes W1 _ _ _ _).1, by omega, by omega, by omega, (two_boxes W1 _ _ _ _).2.2.1, (two_boxes W1 _ _ _ _).2.2.2⟩
        | exact ⟨_, _, rfl, (two_boxes W1 _ _ _ _).1, (two_boxes W1 _ _ _ _).2.1, by omega, by omega, by omega, (two_boxes W1 _ _ _ _).2.2.1, (two_boxes W1 _ _ _ _).2.2.2⟩
  case rest =>
    obtain ⟨B, G, rfl, hbB, hbG, hBG, hB1, hG1, hsz, hbl⟩ := hcut
    have c0 := (HA1.out.below hbl HA1.out.lt).cell 0
    have c1 := (HA1.out.below hbl HA1.out.lt).cell 1
    have HBb := Lib.hid hbB
    have HGb := Lib.hid hbG
    have HBl := Lib.hid hbl
    have HNe := Lib.hid hBG
    have HB1' := Lib.hid hB1
    have HG1' := Lib.hid hG1
    have HSz := Lib.hid hsz
    have HSS := Lib.hid hS
    have HXX := Lib.hid HR1.out.lt
    clear q0 q1 q2 q3 q4 q5 hbB hbG hbl hBG hB1 hG1 hsz hS hmk
    go_wp2_with fail
    go_loopw [26] (fun j wr => ∃ (i : Nat) (V : Nat → Value), i ≤ K ∧ j = .int .i64 (i : Int) ∧ Cls wr wc.heap.size G C V (fun c => ints (tcl r c i)) ∧ Kept (some G) wc.heap.size wc wr) (fun j _ => K - (intOf j).toNat)
    case atStart => exact ⟨0, fun _ => .slice none 0 0, by omega, by first | trivial | rfl, ⟨HGb.out, fun c _ => Row.nil _ _, fun c d _ _ _ => .inl rfl, HGb.out.lt⟩, Kept.refl _ _ _⟩
    case round =>
      obtain ⟨U, hU⟩ : ∃ U, U = wr := ⟨_, rfl⟩
      subst hU
      obtain ⟨i, V, hi, rfl, hcl, hkp⟩ := hrel
      have hg1 := HG1'.out
      have hbU : Below W1.heap.size W1 U := HBl.out.trans ((hkp.le (by have := HSz.out; omega)).below (fun k e => by cases e; exact hg1))
      have HCl := Lib.hid hcl
      have HKp := Lib.hid hkp
      by_cases hlt : i < K
      · have hi1 : (i : Int) < (K : Int) := by omega
        obtain ⟨bM, oM, oc, cpc, rfl, hbM, e1, l1⟩ := HM.out.at_ hlt
        have hbS : Below w.heap.size w U := HB1.out.trans (hbU.mono HB1.out.size)
        have e2 := (hbS.cell (p := ⟨bM, oM + i, none⟩) hbM).trans e1
        have hlz : ∀ V, Below w.heap.size w V → Lz V oc (el C (r i)).length (lz (el C (r i))) := fun V hV => l1.below hV
        obtain ⟨l, hl⟩ : ∃ l, el C (r i) = l := ⟨_, rfl⟩
        rw [hl] at hlz e2
        have HLs : Hid (∀ x, x ∈ l → x < C) := Lib.hid fun x hx => by rw [← hl] at hx; exact (el_mem.1 hx).1
        have HAs : Hid (l.Pairwise (· < ·)) := Lib.hid (by rw [← hl]; exact el_asc _ _)
        have HEq := Lib.hid hl
        have HLz := Lib.hid hlz
        obtain ⟨n1, hn1⟩ : ∃ n, l.length = n := ⟨_, rfl⟩
        rw [hn1] at e2
        have HN1 := Lib.hid hn1
        have HKK := Lib.hid hK
        clear e1 l1 hl hlz hn1 hbM hbU hbS hcl hkp hg1
        go_wp2_with fail
        go_loopw [33] (fun j wr => ∃ (jj : Nat) (V : Nat → Value), jj ≤ n1 ∧ j = .int .i64 (jj : Int) ∧ Cls wr wc.heap.size G C V (tcj r l i jj) ∧ Kept (some G) wc.heap.size wc wr) (fun j _ => n1 - (intOf j).toNat)
        case atStart => exact ⟨0, V, by omega, by first | trivial | rfl, HCl.out.congr (fun c _ => rfl), HKp.out⟩
        case round =>
          obtain ⟨jj, V2, hj, rfl, hcl, hkp⟩ := hrel
          have hg1 := HG1'.out
          have hnl : n1 ≤ 31 := by rw [← HN1.out, ← HEq.out]; have := el_len C (r i); omega
          by_cases hlj : jj < n1
          · have hj1 : (jj : Int) < (n1 : Int) := by omega
            have hbW : Below W1.heap.size W1 wr := HBl.out.trans ((hkp.le (by have := HSz.out; omega)).below (fun k e => by cases e; exact hg1))
            have hbS : Below w.heap.size w wr := HB1.out.trans (hbW.mono HB1.out.size)
            have hzz := HLz.out wr hbS
            rw [HN1.out] at hzz
            obtain ⟨bl, ofs, rfl, hbl2, hcc⟩ := hzz (by omega)
            have c2 := hcc jj hlj
            have hjl : jj < l.length := by rw [HN1.out]; exact hlj
            obtain ⟨x, hx⟩ : ∃ x, l.getD jj 0 = x := ⟨_, rfl⟩
            have c3 : wr.cell? ⟨bl, ofs + jj, none⟩ = some (.int .i64 (x : Int)) := by rw [← hx]; exact c2
            have hxk : x < C := HLs.out x (by rw [← hx, List.getD_eq_getElem?_getD, List.getElem?_eq_getElem hjl]; exact List.getElem_mem _)
            have hx1 : (x : Int) < (C : Int) := by omega
            have t1 := tcj_old r HAs.out i hjl
            have t2 := tcj_new r HAs.out i hjl
            have t3 := fun c hc => tcj_other r (l := l) i (j := jj) (c := c) hjl hc
            rw [hx] at t1 t2 t3
            have hrow := hcl.rows x hxk
            rw [t1] at hrow
            have c4 := (hcl.box.cell x).trans (vcells_get V2 hxk)
            have c5 : ∀ ob, (wr.alloc ob).cell? ⟨G, x, none⟩ = some (V2 x) := fun ob => ((hcl.box.alloc ob).cell x).trans (vcells_get V2 hxk)
            have hbB : Box wr B #[.int .i64 (K : Int), .slice (some ⟨G, 0, none⟩) C C] 24 := (hkp.block B HBb.out.lt (fun e => HNe.out (by cases e; rfl))).trans HBb.out
            have c6 := hbB.cell 1
            have c7 : ∀ ob, (wr.alloc ob).cell? ⟨B, 1, none⟩ = some (.slice (some ⟨G, 0, none⟩) C C) := fun ob => (hbB.alloc ob).cell 1
            obtain ⟨vx, hvx⟩ : ∃ vx, V2 x = vx := ⟨_, rfl⟩
            obtain ⟨m, hm⟩ : ∃ m, (ints (tcl r x i)).length = m := ⟨_, rfl⟩
            rw [hvx] at c4 c5 hrow
            obtain ⟨ov, cv, rfl, hov⟩ := hrow.shape' hm
            have hml : m ≤ 1000000 := by rw [← hm, ints_len]; have := tcl_len r x i; have := HKK.out; omega
            have HV := Lib.hid hcl
            have HK2 := Lib.hid hkp
            have HVx := Lib.hid hvx
            have HMm := Lib.hid hm
            have HRow := Lib.hid hrow
            have HT2 := Lib.hid t2
            have HT3 := Lib.hid t3
            have HBB := Lib.hid hbB
            have hszw : wc.heap.size ≤ wr.heap.size := hkp.size
            clear hcc hx c2 hvx hm hrow t1 t2 t3 hcl hkp hbW hbS hbl2 hjl hbB hov hg1
            go_wp2_with fail
            go_region_law (refine step_int _ rfl (.tmp 44) (.tmp 46) rfl wc.heap.size (.slice ov m cv) (ints (tcl r x i)) m HMm.out rfl ((HRow.out.alloc (.cells #[.int .i64 (i : Int)] 3)).below (below_dn 1 (Below.refl _ _))) wr.heap.size (i : Int) rfl (World.cell?_alloc_mark wr #[_] 3 (0, 0) 0) hml (by simp; omega) ?_; intro gg cv2 w2 hr2 hgr hat; have hfin := ((HV.out.alloc (.cells #[.int .i64 (i : Int)] 3)).drew).step hxk hr2 (HVx.out ▸ hgr) (HVx.out ▸ hat) HT2.out (fun c _ hcx => HT3.out c hcx); have hkf := ((HK2.out.trans (Kept.of (((Below.refl _ wr).alloc hszw (.cells #[.int .i64 (i : Int)] 3)).drew))).trans (Kept.of ((Below.refl _ _).grown hgr (by simp; omega) (fun k e => (HRow.out.ownLt k e).1)))).trans (Kept.set x (.slice (some ⟨gg, 0, none⟩) (m + 1) cv2)); have hbx := (((HV.out.alloc (.cells #[.int .i64 (i : Int)] 3)).drew).box.grown hgr (fun e => by have h1 := HRow.out.ownLt _ e.symm; have h2 := HV.out.lt; omega)); have g2 := (hbx.cell x).trans (vcells_get V2 hxk); have g3 := hbx.open_ x; have g4 := (Box.grown (w := (wr.alloc (.cells #[.int .i64 (i : Int)] 3)).drew) (HBB.out.alloc (.cells #[.int .i64 (i : Int)] 3)) hgr (fun e => by have h1 := HRow.out.ownLt _ e.symm; have h2 := HBb.out.lt; omega)).cell 1)
            all_goals
              go_wp2_with fail
              go_roundw
              case rel => exact ⟨jj + 1, _, by omega, by go_num, hfin, hkf⟩
              case measure => simp [intOf]; omega
          · have e : n1 = jj := by omega
            have hlast : Cls wr wc.heap.size G C V2 (fun c => ints (tcl r c (i + 1))) := hcl.congr fun c hc => by
              show ints (tcl r c (i + 1)) = tcj r l i jj c
              rw [← e, ← HN1.out, ← HEq.out]
              exact (tcj_end r hc i).symm
            have HLa := Lib.hid hlast
            have HKq := Lib.hid hkp
            clear hcl hkp hlast e hg1
            go_wp2_with fail
            go_roundw
            case rel => exact ⟨i + 1, V2, by omega, by go_num, HLa.out, HKq.out⟩
            case measure => simp [intOf]; omega
      · have e : K = i := by omega
        subst e
        have hss := HSS.out
        have hxx := HXX.out
        have hszz := HSz.out
        have hr1 := HR1.out.below hbU HR1.out.lt
        have d0 := hr1.cell 0
        have d1 := hr1.cell 1
        have g0 := hr1.open_ 0
        have g2 := hr1.open_ 1
        have hbB : Box U B #[.int .i64 (K : Int), .slice (some ⟨G, 0, none⟩) C C] 24 := (hkp.block B HBb.out.lt (fun e => HNe.out (by cases e; rfl))).trans HBb.out
        have c6 := hbB.cell 0
        have c7 := hbB.cell 1
        have hfb := (hr1.set 0 (.int .i64 (K : Int))).set 1 (.slice (some ⟨G, 0, none⟩) C C)
        have hfw := (((HB1.out.trans (hbU.mono HB1.out.size))).setCell (p := ⟨S + 1, 0, none⟩) (by show w.heap.size ≤ S + 1; omega) (.int .i64 (K : Int))).setCell (p := ⟨S + 1, 1, none⟩) (by show w.heap.size ≤ S + 1; omega) (.slice (some ⟨G, 0, none⟩) C C)
        have hcc : Cls U wc.heap.size G C V (fun c => ints (el K (trr K r c))) := hcl.congr fun c _ => by
          show ints (el K (trr K r c)) = ints (tcl r c K)
          rw [tcl_el]
        have hfc := ((hcc.setOther (b := S + 1) (i := 0) (by omega) (by omega) (.int .i64 (K : Int))).setOther (b := S + 1) (i := 1) (by omega) (by omega) (.slice (some ⟨G, 0, none⟩) C C)).ls
        have HFB := Lib.hid hfb
        have HFW := Lib.hid hfw
        have HFC := Lib.hid hfc
        clear hlt hss hxx hszz hr1 hbB hfb hfw hcc hfc hbU hcl hkp hg1
        go_wp2_with fail
        have z0 := HFB.out.cell 0
        have z1 := HFB.out.cell 1
        simp at z0 z1
        refine bodyPost_ret (v := .tuple #[.agg #[.int .i64 (K : Int), .slice (some ⟨G, 0, none⟩) C C], .int .i64 0]) (by simp [results, Tryd.results14, go_sem, z0, z1]) rfl ⟨_, _, rfl, HFC.out, HFW.out⟩

end Go.Proofs.YtbefkngeffpokaaDoor
