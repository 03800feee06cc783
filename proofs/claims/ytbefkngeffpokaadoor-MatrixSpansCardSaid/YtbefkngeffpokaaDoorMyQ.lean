/- Kernel of the package, of matrices that are well-formed. -/
import Derived.Test.YtbefkngeffpokaaDoorMyL
import Derived.Test.YtbefkngeffpokaaDoorMyP
import Derived.WalkKit
import Derived.WalkSpells
import Derived.WalkLawsBesides
import Derived.Handy
import Derived.Deep.QuietTactic
import Derived.BigQuiet
import Derived.Outline
import Derived.Laws.BitsAllLaws
import Derived.IntWalk
import Derived.Lib.SmallJoins
import Derived.Lib.Hide
import Derived.Deep.DeepCutAuto
import Derived.LoopTactic
import Derived.Deep.RegionWith
import Derived.Laws.CopyOwn
import Derived.Maps.OwnOps
import Derived.Maps.OwnSet
import Derived.Laws.OwnMore
import Derived.Maps.AppendAt
import Derived.RangeFuncNested
import Derived.RangeFuncBound
import Derived.RangeFuncCalls
import Derived.RangeFuncLeaves
import Derived.RangeFuncBox
import Derived.RangeFuncFrom
import Derived.Shelf.Abstract
import Derived.Shelf.RegionOpen
import Derived.OwnWalkIn
import Derived.TacticsInMore
import Derived.LoopNIn
import Derived.LoopIn
import Derived.Deep.RegionHeld3
import Derived.RegionTactic
import Derived.ChangeAlike
namespace Go.Proofs.YtbefkngeffpokaaDoor
set_option linter.unusedVariables false
set_option linter.unusedSimpArgs false
open Go.RowKit


/-- All as it was below B, but for two blocks. -/
structure K2 (b1 b2 B : Nat) (w w' : World) : Prop where
  os : w'.os = w.os
  tape : w'.tape = w.tape
  output : w'.output = w.output
  size : w.heap.size ≤ w'.heap.size
  block : ∀ k, k < B → k ≠ b1 → k ≠ b2 → w'.heap[k]? = w.heap[k]?
theorem K2.refl (b1 b2 B : Nat) (w : World) : K2 b1 b2 B w w := ⟨rfl, rfl, rfl, Nat.le_refl _, fun _ _ _ _ => rfl⟩
theorem K2.one {b1 b2 B : Nat} {a b c : World} (h : K2 b1 b2 B a b) (k : Kept (some b1) B b c) : K2 b1 b2 B a c := ⟨k.os.trans h.os, k.tape.trans h.tape, k.output.trans h.output, Nat.le_trans h.size k.size, fun i hi h1 h2 => (k.block i hi (fun e => h1 (Option.some.inj e))).trans (h.block i hi h1 h2)⟩
theorem K2.two {b1 b2 B : Nat} {a b c : World} (h : K2 b1 b2 B a b) (k : Kept (some b2) B b c) : K2 b1 b2 B a c := ⟨k.os.trans h.os, k.tape.trans h.tape, k.output.trans h.output, Nat.le_trans h.size k.size, fun i hi h1 h2 => (k.block i hi (fun e => h2 (Option.some.inj e))).trans (h.block i hi h1 h2)⟩
theorem K2.below {b1 b2 B B' : Nat} {w w' : World} (h : K2 b1 b2 B w w') (hB : B' ≤ B) (h1 : B' ≤ b1) (h2 : B' ≤ b2) : Below B' w w' := ⟨h.os, h.tape, h.output, h.size, fun k hk => h.block k (by omega) (by omega) (by omega)⟩
theorem K2.box {b1 b2 B b : Nat} {w w' : World} {c : Array Value} {t : TypeId} (h : K2 b1 b2 B w w') (hb : b < B) (h1 : b ≠ b1) (h2 : b ≠ b2) (hx : Box w b c t) : Box w' b c t := (h.block b hb h1 h2).trans hx
/-- The members of column c when i rows have been read. -/
def mm (T : List Nat) (τ : Nat → Nat) (i c : Nat) : List Nat := (T.take i).filter fun p => (τ p).testBit c && decide (c ≠ p)
theorem mm_step {T : List Nat} (τ : Nat → Nat) (c : Nat) {i : Nat} (hi : i < T.length) : mm T τ (i + 1) c = if (τ (T.getD i 0)).testBit c = true ∧ c ≠ T.getD i 0 then mm T τ i c ++ [T.getD i 0] else mm T τ i c := by
  unfold mm
  rw [take_snoc hi, List.filter_append]
  by_cases h : (τ (T.getD i 0)).testBit c = true ∧ c ≠ T.getD i 0
  · rw [if_pos h, List.filter_cons_of_pos (by simpa using h), List.filter_nil]
  · rw [if_neg h, List.filter_cons_of_neg (by simpa using h), List.filter_nil, List.append_nil]
theorem mm_len (T : List Nat) (τ : Nat → Nat) (i c : Nat) : (mm T τ i c).length ≤ T.length := by
  unfold mm
  have h1 := List.length_filter_le (fun p => (τ p).testBit c && decide (c ≠ p)) (T.take i)
  have h2 := List.length_take_le i T
  have h3 : (T.take i).length ≤ T.length := by rw [List.length_take]; omega
  omega
theorem mm_end {T : List Nat} (τ : Nat → Nat) {c : Nat} (hc : c ∉ T) : mm T τ T.length c = T.filter fun p => (τ p).testBit c := by
  unfold mm
  rw [List.take_length]
  refine List.filter_congr fun p hp => ?_
  have : c ≠ p := fun e => hc (e ▸ hp)
  simp [this]
/-- The members while a row is read: its tail l as far as j. -/
def mcj (F : Nat → List Nat) (l : List Nat) (p j c : Nat) : List Int := ints (if c ∈ l.take j then F c ++ [p] else F c)
theorem mcj_old (F : Nat → List Nat) {l : List Nat} (hl : l.Pairwise (· < ·)) (p : Nat) {j : Nat} (h : j < l.length) : mcj F l p j (l.getD j 0) = ints (F (l.getD j 0)) := by
  unfold mcj
  rw [if_neg (tcj_fresh hl h)]
theorem mcj_new (F : Nat → List Nat) {l : List Nat} (p : Nat) {j : Nat} (h : j < l.length) : mcj F l p (j + 1) (l.getD j 0) = ints (F (l.getD j 0)) ++ [(p : Int)] := by
  unfold mcj
  rw [take_getD h, if_pos (by simp), ints_snoc]
theorem mcj_other (F : Nat → List Nat) {l : List Nat} (p : Nat) {j c : Nat} (h : j < l.length) (hc : c ≠ l.getD j 0) : mcj F l p (j + 1) c = mcj F l p j c := by
  unfold mcj
  rw [take_getD h]
  congr 1
  simp only [List.mem_append, List.mem_singleton, hc, or_false]
theorem drop_mem {l : List Nat} {p : Nat} (h : l.Pairwise (· < ·)) (h0 : 0 < l.length) (hp : l.getD 0 0 = p) (c : Nat) : c ∈ l.drop 1 ↔ c ∈ l ∧ c ≠ p := by
  cases l with
  | nil => simp at h0
  | cons x l =>
    have hx : x = p := hp
    subst hx
    have h2 := (List.pairwise_cons.1 h).1
    simp only [List.drop_succ_cons, List.drop_zero, List.mem_cons]
    constructor
    · intro hc; have := h2 c hc; exact ⟨.inr hc, by omega⟩
    · rintro ⟨h3 | h3, h4⟩
      · exact absurd h3 h4
      · exact h3
theorem mcj_end {C c : Nat} {T : List Nat} {τ : Nat → Nat} {i : Nat} (hi : i < T.length) (hc : c < C) (hl : 0 < (el C (τ (T.getD i 0))).length) (hp : (el C (τ (T.getD i 0))).getD 0 0 = T.getD i 0) : mcj (fun c => mm T τ i c) ((el C (τ (T.getD i 0))).drop 1) (T.getD i 0) ((el C (τ (T.getD i 0))).drop 1).length c = ints (mm T τ (i + 1) c) := by
  unfold mcj
  rw [List.take_length, mm_step τ c hi]
  congr 1
  have e : (c ∈ (el C (τ (T.getD i 0))).drop 1) ↔ ((τ (T.getD i 0)).testBit c = true ∧ c ≠ T.getD i 0) := by
    rw [drop_mem (el_asc _ _) hl hp, el_mem]
    exact ⟨fun h => ⟨h.1.2, h.2⟩, fun h => ⟨⟨hc, h.1⟩, h.2⟩⟩
  by_cases h : c ∈ (el C (τ (T.getD i 0))).drop 1
  · rw [if_pos h, if_pos (e.1 h)]
  · rw [if_neg h, if_neg (fun g => h (e.2 g))]
theorem drop_getD {l : List Nat} {j : Nat} : (l.drop 1).getD j 0 = l.getD (j + 1) 0 := by
  rw [List.getD_eq_getElem?_getD, List.getD_eq_getElem?_getD, List.getElem?_drop, Nat.add_comm]
theorem Row.cap {w : World} {R n cp : Nat} {oc : Option Addr} {l : List Int} (h : Row w R (.slice oc n cp) l) : n ≤ cp := by
  rcases h.2 with ⟨e, _⟩ | ⟨g, cap, cur, e, _, _, hle, _⟩
  · obtain ⟨_, rfl, rfl⟩ := Value.slice.inj e; exact Nat.le_refl _
  · obtain ⟨_, rfl, rfl⟩ := Value.slice.inj e; exact hle
theorem Mn.caps {R : Nat} {w : World} {o : Option Addr} {K cap N c : Nat} {r : Nat → Nat} (h : Mn R w o K cap N r) (hc : c < K) {b off : Nat} (e : o = some ⟨b, off, none⟩) {oc : Option Addr} {n cp : Nat} (hcell : w.cell? ⟨b, off + c, none⟩ = some (.slice oc n cp)) : n ≤ cp := by
  obtain ⟨vs, h⟩ := h
  obtain ⟨u, h1, h2, _⟩ := h.rows c hc
  rcases own_cases h.own with ⟨_, h0⟩ | ⟨g, cap', e2, _, _, h3⟩
  · omega
  · have e3 := (Value.slice.inj e2).1
    rw [e] at e3
    have e4 := Option.some.inj e3
    injection e4 with e5 e6
    have h4 := h3 c u h1
    rw [e5, e6, Nat.zero_add, h4] at hcell
    have h5 := Option.some.inj hcell
    subst h5
    exact h2.cap
theorem Cls.keep {w W : World} {R B k : Nat} {V : Nat → Value} {L : Nat → List Int} (h : Cls w R B k V L) (hk : ∀ j, R ≤ j ∧ j < w.heap.size → W.heap[j]? = w.heap[j]?) (hB : W.heap[B]? = w.heap[B]?) : Cls W R B k V L :=
  ⟨hB.trans h.box, fun c hc => (h.rows c hc).keep fun j h1 h2 => hk j ⟨h1, h2⟩, h.apart, h.lt⟩
set_option maxRecDepth 100000 in
set_option maxHeartbeats 8000000 in
theorem ker_good (C K : Nat) (hC : C ≤ 31) (hK : K ≤ 31) (r : Nat → Nat) (hr : ∀ i, i < K → r i < 2 ^ C) (T : List Nat) (τ : Nat → Nat) (hcan : Can C (rows K r) T τ) (hSort : SortP) (o : Option Addr) (cap : Nat) (w : World) (hM : Mx w o K C r) (hTb : Tb w) :
    Calls Tryd.prog 30 #[mv (C : Int) o K cap] w (MRes C (nl C T).length (fun i => kr T τ ((nl C T).getD i 0)) 0 w) := by
  obtain ⟨f1, f2, f3⟩ := w2_facts w (C : Int) o K cap
  obtain ⟨S, hS⟩ : ∃ n, w.heap.size = n := ⟨_, rfl⟩
  have hTl := hcan.len_leC
  have hmk := fun w => run_vecs C (by omega) w
  have HT := Lib.hid (fun W (h : Below w.heap.size w W) => ech_good C K hC hK r hr T τ hcan hSort o cap W (hM.below h) (hTb.here h))
  have HNb := Lib.hid (fun W => newbits_ok C (by omega) W)
  have HCan := Lib.hid hcan
  have HB := Lib.hid f1
  have HA := Lib.hid f2
  have HR := Lib.hid f3
  unfold MRes mv at HT
  unfold mv
  clear hM f1 f2 f3 hr hcan hTb
  go_enter Tryd.func30, Tryd.ntmps30
  go_wp2_with fail
  refine (HT.out _ HB.out).mono ?_
  rintro e W1 ⟨o2, c2, rfl, hmn, hb1⟩
  have hr1 := HR.out.below hb1 HR.out.lt
  have ha1 := HA.out.below hb1 HA.out.lt
  rw [hS] at hr1 ha1
  have q0 := ha1.cell 0
  have q3 : ∀ ob, (W1.alloc ob).cell? ⟨S, 0, none⟩ = some (.int .i64 (C : Int)) := fun ob => (ha1.alloc ob).cell 0
  have q4 : ∀ ob ob2, ((W1.alloc ob).alloc ob2).cell? ⟨S, 0, none⟩ = some (.int .i64 (C : Int)) := fun ob ob2 => ((ha1.alloc ob).alloc ob2).cell 0
  have HB1 := Lib.hid (HB.out.trans (Joins.below_le hb1 HB.out.size))
  have HR1 := Lib.hid hr1
  have HA1 := Lib.hid ha1
  have HMx := Lib.hid hmn.mx
  have HMn := Lib.hid hmn
  have HSl := Lib.hid (show S + 1 < W1.heap.size from HR1.out.lt)
  have HB1s := Lib.hid (show w.heap.size ≤ W1.heap.size from HB1.out.size)
  clear hb1 hr1 ha1 hmn HT
  go_wp2_with fail
  have hx1 := (Box.new W1 #[.int .i64 (C : Int), .slice o2 T.length c2] 24).alloc (.cells (vcells C (fun _ => .slice none 0 0)) 25)
  have hx2 := Box.new (W1.alloc (.cells #[.int .i64 (C : Int), .slice o2 T.length c2] 24)) (vcells C (fun _ => .slice none 0 0)) 25
  rw [World.size_alloc] at hx2
  have hba := (HA1.out.alloc (.cells #[.int .i64 (C : Int), .slice o2 T.length c2] 24)).alloc (.cells (vcells C (fun _ => .slice none 0 0)) 25)
  have hbr := (HR1.out.alloc (.cells #[.int .i64 (C : Int), .slice o2 T.length c2] 24)).alloc (.cells (vcells C (fun _ => .slice none 0 0)) 25)
  have hbw := (HB1.out.alloc HB1.out.size (.cells #[.int .i64 (C : Int), .slice o2 T.length c2] 24)).alloc (by have := HB1.out.size; simp; omega) (.cells (vcells C (fun _ => .slice none 0 0)) 25)
  have hbm := (((Below.refl W1.heap.size W1).alloc (Nat.le_refl _) (.cells #[.int .i64 (C : Int), .slice o2 T.length c2] 24)).alloc (by simp) (.cells (vcells C (fun _ => .slice none 0 0)) 25))
  have hsz : ((W1.alloc (.cells #[.int .i64 (C : Int), .slice o2 T.length c2] 24)).alloc (.cells (vcells C (fun _ => .slice none 0 0)) 25)).heap.size = W1.heap.size + 1 + 1 := by simp
  refine (HNb.out _).mono ?_
  obtain ⟨W2, hW⟩ : ∃ W, (W1.alloc (.cells #[.int .i64 (C : Int), .slice o2 T.length c2] 24)).alloc (.cells (vcells C (fun _ => .slice none 0 0)) 25) = W := ⟨_, rfl⟩
  rw [hW] at hx1 hx2 hba hbr hbw hbm hsz ⊢
  obtain ⟨Y, hY⟩ : ∃ Y, W1.heap.size = Y := ⟨_, rfl⟩
  rw [hY] at hx1 hx2 hsz HSl HB1s hbm ⊢
  have HY := Lib.hid hY
  rw [hsz]
  rintro e W ⟨rfl, hbx, hb2⟩
  have HX1 := Lib.hid (hx1.below hb2 (by omega))
  have HG := Lib.hid (hx2.below hb2 (by omega))
  have HA := Lib.hid (hba.below hb2 (by have := HSl.out; omega))
  have HR := Lib.hid (hbr.below hb2 (by have := HSl.out; omega))
  have HBW := Lib.hid (hbw.trans (Joins.below_le hb2 (by have := HB1.out.size; omega)))
  have HM := Lib.hid (hbm.trans (hb2.mono (by omega)))
  have HBv := Lib.hid hbx
  have HSw := Lib.hid hS
  have HW := Lib.hid (Box.lt hbx)
  have q1 := HX1.out.cell 1
  have q0 := HA.out.cell 0
  clear hW hY hx1 hx2 hba hbr hbw hbm hbx hb2 q3 q4 hS HA1 HR1 HB1 hsz hmk HNb
  obtain ⟨R, hR⟩ : ∃ R, W.heap.size = R := ⟨_, rfl⟩
  rw [hR] at HW
  have HRs := Lib.hid hR
  clear hR
  go_wp2_with fail
  go_loopw [32] (fun j wr => ∃ (i : Nat) (V : Nat → Value), i ≤ T.length ∧ j = .int .i64 (i : Int) ∧ Cls wr R (Y + 1) C V (fun c => ints (mm T τ i c)) ∧ Bx wr (Y + 1 + 1) (flips 0 (T.take i)) ∧ K2 (Y + 1) (Y + 1 + 1) R W wr) (fun j _ => T.length - (intOf j).toNat)
  case atStart => exact ⟨0, fun _ => .slice none 0 0, by omega, by first | trivial | rfl, ⟨HG.out, fun c _ => Row.nil _ _, fun c d _ _ _ => .inl rfl, by have := HW.out; omega⟩, HBv.out, K2.refl _ _ _ _⟩
  case round =>
    obtain ⟨i, V, hi, rfl, hcl, hbv, hk2⟩ := hrel
    have hYS := HSl.out
    have hWR := HW.out
    have hbY : Below Y W wr := hk2.below (by omega) (by omega) (by omega)
    have hXo := hk2.box (b := Y) (by omega) (by omega) (by omega) HX1.out
    have hAo := hk2.box (b := S) (by omega) (by omega) (by omega) HA.out
    have c1 := hXo.cell 1
    have c0 := hAo.cell 0
    have HCl := Lib.hid hcl
    have HBv1 := Lib.hid hbv
    have HK2 := Lib.hid hk2
    by_cases hlt : i < T.length
    · have hi1 : (i : Int) < (T.length : Int) := by omega
      have hp := HCan.out.getD_mem hlt
      have hpC := HCan.out.lt _ hp
      obtain ⟨hpf, hpl⟩ := el_first (HCan.out.ld hp) hpC
      have hend := fun c (hc : c < C) => mcj_end (τ := τ) hlt hc hpl hpf
      have hfl := flips_snoc 0 (T.getD i 0) (T.take i)
      rw [← take_snoc hlt] at hfl
      have hx32 : flips 0 (T.take i) < 4294967296 := flips_lt _ _ (by omega) (fun x hx => by have := HCan.out.lt x (List.mem_of_mem_take hx); omega)
      have hmx : Mx wr o2 T.length C (fun i => τ (T.getD i 0)) := HMx.out.below (by rw [HY.out]; exact HM.out.trans hbY)
      obtain ⟨bM, oM, oc, cpc, hoo, hbM, e2, l1⟩ := hmx.at_ hlt
      subst hoo
      have hFl := flip_ok (Y + 1 + 1) (flips 0 (T.take i)) (T.getD i 0) (by omega) hx32 wr hbv
      rw [← hfl] at hFl
      have hmem : ∀ x, x ∈ (el C (τ (T.getD i 0))).drop 1 → x < C := fun x hx => (el_mem.1 (List.mem_of_mem_drop hx)).1
      have hasc : ((el C (τ (T.getD i 0))).drop 1).Pairwise (· < ·) := (el_asc _ _).sublist (List.drop_sublist _ _)
      have hlen31 := el_len C (τ (T.getD i 0))
      obtain ⟨p, hpe⟩ : ∃ p, T.getD i 0 = p := ⟨_, rfl⟩
      simp only [hpe] at hpf hpl hend hFl e2 l1 hpC hp hmem hasc hlen31
      obtain ⟨bl, ofs, rfl, hbl, hcc⟩ := l1 hpl
      have e3 := hcc 0 hpl
      unfold lz at e3
      rw [hpf, Nat.add_zero] at e3
      obtain ⟨l, hl⟩ : ∃ l, el C (τ p) = l := ⟨_, rfl⟩
      simp only [hl] at hend e2 hmem hasc hpl hcc hlen31
      obtain ⟨m, hm⟩ : ∃ m, l.length = m + 1 := ⟨l.length - 1, by omega⟩
      have hdl : (l.drop 1).length = m := by rw [List.length_drop, hm]; omega
      rw [hm] at e2
      rw [hdl] at hend
      have hblY : bl < Y := by
        obtain ⟨b3, o3, oc3, cp3, h31, h32, h33, h34⟩ := HMx.out.at_ hlt
        obtain rfl : b3 = bM := by cases h31; rfl
        have h35 : wr.cell? ⟨b3, oM + i, none⟩ = some (.slice oc3 (el C (τ (T.getD i 0))).length cp3) := by
          cases h31
          exact ((HM.out.trans hbY).cell (p := ⟨b3, oM + i, none⟩) (by have := HY.out; show b3 < Y; omega)).trans h33
        rw [e2] at h35
        have h36 := (Value.slice.inj (Option.some.inj h35)).1
        have h37 := h34.blk (by simp only [hpe, hl, hm]; omega) h36.symm
        have := HY.out
        omega
      have hcap : m + 1 ≤ cpc := by
        obtain ⟨b3, o3, oc3, cp3, h31, h32, h33, h34⟩ := HMx.out.at_ hlt
        cases h31
        have h35 := ((HM.out.trans hbY).cell (p := ⟨bM, oM + i, none⟩) (by have := HY.out; show bM < Y; omega)).symm.trans e2
        exact HMn.out.caps hlt rfl h35
      have hcap1 : (m : Int) + 1 ≤ (cpc : Int) := by omega
      have HFl := Lib.hid hFl
      have HEnd := Lib.hid hend
      have HMem := Lib.hid hmem
      have HAsc := Lib.hid hasc
      have HCc := Lib.hid (fun V (hV : Below Y W V) j (hj : j < l.length) => (hV.cell (p := ⟨bl, ofs + j, none⟩) hblY).trans ((hbY.cell (p := ⟨bl, ofs + j, none⟩) hblY).symm.trans (hcc j hj)))
      have HDl := Lib.hid hdl
      have HPe := Lib.hid hpe
      have HL0 := Lib.hid (show l.getD 0 0 = p by rw [← hl]; exact hpf)
      have hm1 : (1 : Int) ≤ (m : Int) + 1 := by omega
      have hm31 : m + 1 ≤ 31 := by omega
      clear hcl hbv hk2 hXo hAo hmx hFl hend hmem hasc hdl hpe hl hcc hbY hx32 hfl hp hpf hpl l1 c0
      go_wp2_with fail
      refine HFl.out.mono ?_
      rintro e W5 ⟨rfl, hbx5, hk5⟩
      have HBv5 := Lib.hid hbx5
      have HK5 := Lib.hid (HK2.out.two (hk5.le (by have := HK2.out.size; have := HRs.out; omega)))
      have HCl5 := Lib.hid (HCl.out.keep (W := W5) (fun j hj => hk5.block j hj.2 (fun e => by cases e; have := HW.out; omega)) (hk5.block (Y + 1) HCl.out.box.lt (fun e => by cases e)))
      have HB5 := Lib.hid (HK5.out.below (B' := Y) (by have := HW.out; omega) (by omega) (by omega))
      have e4 := HCc.out W5 HB5.out 0 (by omega)
      clear hbx5 hk5 e2 e3
      by_cases hm00 : m = 0
      · subst hm00
        have hz := fun c hc => (HEnd.out c hc)
        have HZe := Lib.hid hz
        clear hz
        go_wp2_with fail
        all_goals
          go_loopw [44] (fun j wr => j = .int .i64 0 ∧ wr = W5) (fun j _ => 0)
          case atStart => exact ⟨by first | trivial | rfl, by first | trivial | rfl⟩
          case round =>
            obtain ⟨rfl, rfl⟩ := hrel
            have HLa := Lib.hid (HCl5.out.congr (L' := fun c => ints (mm T τ (i + 1) c)) (fun c hc => (HZe.out c hc).symm))
            go_wp2_with fail
            go_roundw
            case rel => exact ⟨i + 1, V, by omega, by go_num, HLa.out, HBv5.out, HK5.out⟩
            case measure => simp [intOf]; omega
      · have hcp1 : ¬ cpc = 1 := by omega
        have hcp2 : ¬ cpc - 1 = 0 := by omega
        go_wp2_with fail
        go_loopw [44] (fun j wr => ∃ (jj : Nat) (V : Nat → Value), jj ≤ m ∧ j = .int .i64 (jj : Int) ∧ Cls wr R (Y + 1) C V (mcj (fun c => mm T τ i c) (l.drop 1) p jj) ∧ Bx wr (Y + 1 + 1) (flips 0 (T.take (i + 1))) ∧ K2 (Y + 1) (Y + 1 + 1) R W wr) (fun j _ => m - (intOf j).toNat)
        case atStart => exact ⟨0, V, by omega, by first | trivial | rfl, HCl5.out.congr (fun c _ => rfl), HBv5.out, HK5.out⟩
        case round =>
          clear HCl5 HBv5 e4
          obtain ⟨jj, V2, hj, rfl, hcl, hbv, hk2⟩ := hrel
          have hWR := HW.out
          by_cases hlj : jj < m
          · have hj1 : (jj : Int) < (m : Int) := by omega
            have hbY : Below Y W wr := hk2.below (by omega) (by omega) (by omega)
            have hjl : jj < (l.drop 1).length := by rw [HDl.out]; exact hlj
            obtain ⟨x, hx⟩ : ∃ x, (l.drop 1).getD jj 0 = x := ⟨_, rfl⟩
            have c2 := HCc.out wr hbY (jj + 1) (by omega)
            unfold lz at c2
            rw [← drop_getD, hx] at c2
            have c3 : wr.cell? ⟨bl, ofs + 1 + jj, none⟩ = some (.int .i64 (x : Int)) := by
              have e6 : ofs + 1 + jj = ofs + (jj + 1) := by omega
              rw [e6]; exact c2
            have c8 := HCc.out wr hbY 0 (by omega)
            unfold lz at c8
            rw [Nat.add_zero, HL0.out] at c8
            have c9 : ∀ ob, (wr.alloc ob).cell? ⟨bl, ofs, none⟩ = some (.int .i64 (p : Int)) := fun ob => (((Below.refl _ _).alloc (Nat.le_refl _) ob).cell (p := ⟨bl, ofs, none⟩) (by have := hk2.size; have := HRs.out; show bl < _; omega)).trans c8
            have hxk : x < C := HMem.out x (by rw [← hx, List.getD_eq_getElem?_getD, List.getElem?_eq_getElem hjl]; exact List.getElem_mem _)
            have hx1 : (x : Int) < (C : Int) := by omega
            have t1 := mcj_old (fun c => mm T τ i c) HAsc.out p hjl
            have t2 := mcj_new (fun c => mm T τ i c) p hjl
            have t3 := fun c hc => mcj_other (fun c => mm T τ i c) (l := l.drop 1) p (j := jj) (c := c) hjl hc
            rw [hx] at t1 t2 t3
            have hrow := hcl.rows x hxk
            rw [t1] at hrow
            have c4 := (hcl.box.cell x).trans (vcells_get V2 hxk)
            have c5 : ∀ ob, (wr.alloc ob).cell? ⟨Y + 1, x, none⟩ = some (V2 x) := fun ob => ((hcl.box.alloc ob).cell x).trans (vcells_get V2 hxk)
            obtain ⟨vx, hvx⟩ : ∃ vx, V2 x = vx := ⟨_, rfl⟩
            obtain ⟨q, hq⟩ : ∃ q, (ints (mm T τ i x)).length = q := ⟨_, rfl⟩
            rw [hvx] at c4 c5 hrow
            obtain ⟨ov, cv, rfl, hov⟩ := hrow.shape' hq
            have hml : q ≤ 1000000 := by rw [← hq, ints_len]; have := mm_len T τ i x; omega
            have HV := Lib.hid hcl
            have HKk := Lib.hid hk2
            have HVx := Lib.hid hvx
            have HMm := Lib.hid hq
            have HRow := Lib.hid hrow
            have HT2 := Lib.hid t2
            have HT3 := Lib.hid t3
            have HBv6 := Lib.hid hbv
            have hszw : R ≤ wr.heap.size := by have := hk2.size; have := HRs.out; omega
            clear hx c2 hvx hq hrow t1 t2 t3 hcl hk2 hbY hjl hbv hov
            go_wp2_with fail
            go_region_law (refine step_int _ rfl (.tmp 53) (.tmp 57) rfl R (.slice ov q cv) (ints (mm T τ i x)) q HMm.out rfl ((HRow.out.alloc (.cells #[.int .i64 (p : Int)] 3)).below (below_dn 1 (Below.refl _ _))) wr.heap.size (p : Int) rfl (World.cell?_alloc_mark wr #[_] 3 (0, 0) 0) hml (by simp; omega) ?_; intro gg cv2 w2 hr2 hgr hat; have hfin := ((HV.out.alloc (.cells #[.int .i64 (p : Int)] 3)).drew).step hxk hr2 (HVx.out ▸ hgr) (HVx.out ▸ hat) HT2.out (fun c _ hcx => HT3.out c hcx); have hkf := ((HKk.out.one (Kept.of (((Below.refl _ wr).alloc hszw (.cells #[.int .i64 (p : Int)] 3)).drew))).one (Kept.of ((Below.refl _ _).grown hgr (by simp; omega) (fun k e => (HRow.out.ownLt k e).1)))).one (Kept.set x (.slice (some ⟨gg, 0, none⟩) (q + 1) cv2)); have hbx := (((HV.out.alloc (.cells #[.int .i64 (p : Int)] 3)).drew).box.grown hgr (fun e => by have h1 := HRow.out.ownLt _ e.symm; have h2 := HV.out.lt; omega)); have g2 := (hbx.cell x).trans (vcells_get V2 hxk); have g3 := hbx.open_ x; have hbvf := Box.setOther (Box.grown (w := (wr.alloc (.cells #[.int .i64 (p : Int)] 3)).drew) (Box.alloc HBv6.out (.cells #[.int .i64 (p : Int)] 3)) hgr (fun e => by have h1 := HRow.out.ownLt _ e.symm; omega)) (d := Y + 1) (i := x) (by omega) (.slice (some ⟨gg, 0, none⟩) (q + 1) cv2))
            all_goals
              go_wp2_with fail
              go_roundw
              case rel => exact ⟨jj + 1, _, by omega, by go_num, hfin, hbvf, hkf⟩
              case measure => simp [intOf]; omega
          · have e : m = jj := by omega
            have hlast : Cls wr R (Y + 1) C V2 (fun c => ints (mm T τ (i + 1) c)) := hcl.congr fun c hc => by
              show ints (mm T τ (i + 1) c) = mcj (fun c => mm T τ i c) (l.drop 1) p jj c
              rw [← e]
              exact (HEnd.out c hc).symm
            have HLa := Lib.hid hlast
            have HBv6 := Lib.hid hbv
            have HKk := Lib.hid hk2
            clear hlast hbv hk2 hcl hlj
            go_wp2_with fail
            go_roundw
            case rel => exact ⟨i + 1, V2, by omega, by go_num, HLa.out, HBv6.out, HKk.out⟩
            case measure => simp [intOf]; omega
    · have e : T.length = i := by omega
      subst e
      rw [List.take_length] at hbv
      have hbX := Box.new wr #[.int .i64 (C : Int), .slice none 0 0] 24
      have hRX : R ≤ wr.heap.size := by have := hk2.size; have := HRs.out; omega
      obtain ⟨Lk, hLk⟩ : ∃ L : Nat → List Int, (fun i => ints (el C (kr T τ ((nl C T).getD i 0)))) = L := ⟨_, rfl⟩
      have hks := (hcl.alloc (.cells #[.int .i64 (C : Int), .slice none 0 0] 24)).ks hbX (fun d hd e => by have := (hcl.rows d hd).ownLt _ e; omega) hRX Lk
      have hbv6 := Box.alloc hbv (.cells #[.int .i64 (C : Int), .slice none 0 0] 24)
      have hA6 := hAo.alloc (.cells #[.int .i64 (C : Int), .slice none 0 0] 24)
      have hR6 := (hk2.box (b := S + 1) (by omega) (by omega) (by omega) HR.out).alloc (.cells #[.int .i64 (C : Int), .slice none 0 0] 24)
      have hbw6 := (HBW.out.trans (hbY.mono (by have := HB1s.out; omega))).alloc (by have := HB1s.out; omega) (.cells #[.int .i64 (C : Int), .slice none 0 0] 24)
      obtain ⟨X, hX⟩ : ∃ x, wr.heap.size = x := ⟨_, rfl⟩
      rw [hX] at hks hRX
      have q7 : ∀ ob, (wr.alloc ob).cell? ⟨S, 0, none⟩ = some (.int .i64 (C : Int)) := fun ob => (hAo.alloc ob).cell 0
      have HV6 := Lib.hid hbv6
      have HA6 := Lib.hid hA6
      have HR6 := Lib.hid hR6
      have HBW6 := Lib.hid hbw6
      have HKs := Lib.hid hks
      have HLk := Lib.hid hLk
      have HRX := Lib.hid hRX
      clear hcl hbv hk2 hXo hAo hbX hks hbv6 hA6 hR6 hbw6 hbY hLk hlt
      go_wp2_with fail
      obtain ⟨W6, hW6⟩ : ∃ V, wr.alloc (.cells #[.int .i64 (C : Int), .slice none 0 0] 24) = V := ⟨_, rfl⟩
      rw [hW6] at HV6 HA6 HR6 HBW6 HKs ⊢
      have hfb : flips 0 T = msk T := rfl
      have hmsk := fun c => msk_bit HCan.out.nd c
      have hT32 : msk T < 4294967296 := flips_lt _ _ (by omega) (fun x hx => by have := HCan.out.lt x hx; omega)
      rw [hfb] at HV6
      have HMs := Lib.hid hmsk
      clear hW6 hfb hmsk c1 c0 hX q7
      go_loopw [67] (fun j wr => ∃ (c : Nat) (v : Value) (vs : List Value), c ≤ C ∧ j = .int .i64 (c : Int) ∧ Ks wr R (Y + 1) X C v v (nl c T).length vs Lk c V (fun c => ints (mm T τ T.length c)) ∧ Below R W6 wr) (fun j _ => C - (intOf j).toNat)
      case atStart => exact ⟨0, _, [], by omega, by first | trivial | rfl, HKs.out, Below.refl _ _⟩
      case round =>
        obtain ⟨c, v, vs, hc, rfl, hks, hbe⟩ := hrel
        have hbv7 : Bx wr (Y + 1 + 1) (msk T) := Bx.below HV6.out hbe (by omega)
        have HKs7 := Lib.hid hks
        have HBe := Lib.hid hbe
        by_cases hlc : c < C
        · have hc1 : (c : Int) < (C : Int) := by omega
          have hha := has_ok (Y + 1 + 1) (msk T) c (by omega) hT32 wr hbv7
          rw [HMs.out c] at hha
          by_cases hmem : c ∈ T
          · rw [decide_eq_true hmem] at hha
            have hnl := nl_succ c T
            rw [if_pos hmem] at hnl
            have HNl := Lib.hid hnl
            have HHa := Lib.hid hha
            clear hks hbe hbv7 hha hnl
            go_wp2_with fail
            refine HHa.out.mono ?_
            rintro e w' ⟨rfl, rfl⟩
            go_wp2_with fail
            go_roundw
            case rel => exact ⟨c + 1, v, vs, by omega, by go_num, by rw [HNl.out]; exact HKs7.out.next, HBe.out⟩
            case measure => simp [intOf]; omega
          · rw [decide_eq_false hmem] at hha
            have hnl := nl_succ c T
            rw [if_neg hmem] at hnl
            have HNl := Lib.hid hnl
            have HHa := Lib.hid hha
            obtain ⟨hna, hnb⟩ := nl_at hlc hmem
            have hLkc : Lk (nl c T).length = ints (mm T τ T.length c) ++ [(c : Int)] := by
              rw [← HLk.out]
              show ints (el C (kr T τ ((nl C T).getD (nl c T).length 0))) = _
              rw [hna, kr_el HCan.out hlc hmem, mm_end τ hmem]
              unfold krl
              rw [ints_snoc]
            obtain ⟨hm1, hm2, hm3⟩ := hks.mem c (Nat.le_refl _) hlc
            have c4 := (hks.gbox.cell c).trans (vcells_get V hlc)
            have c5 : ∀ ob, (wr.alloc ob).cell? ⟨Y + 1, c, none⟩ = some (V c) := fun ob => ((hks.gbox.alloc ob).cell c).trans (vcells_get V hlc)
            have k4 := hks.kbox.cell 1
            have k5 : ∀ ob, (wr.alloc ob).cell? ⟨X, 1, none⟩ = some v := fun ob => (hks.kbox.alloc ob).cell 1
            obtain ⟨vx, hvx⟩ : ∃ vx, V c = vx := ⟨_, rfl⟩
            obtain ⟨q, hq⟩ : ∃ q, (ints (mm T τ T.length c)).length = q := ⟨_, rfl⟩
            rw [hvx] at c4 c5 hm1
            obtain ⟨ov, cv, rfl, hov⟩ := hm1.shape' hq
            have hml : q ≤ 1000000 := by rw [← hq, ints_len]; have := mm_len T τ T.length c; omega
            have hkl := nl_len_le T c
            obtain ⟨k, hk⟩ : ∃ k, (nl c T).length = k := ⟨_, rfl⟩
            rw [hk] at hLkc hkl
            have hks' := hks
            rw [hk] at hks'
            have HK7 := Lib.hid hks'
            have HVx := Lib.hid hvx
            have HMm := Lib.hid hq
            have HRow := Lib.hid hm1
            have HLc := Lib.hid hLkc
            have HKk := Lib.hid hk
            have hszw : R ≤ wr.heap.size := by have := hks.kbox.lt; have := HRX.out; omega
            obtain ⟨ovv, cvv, hvv, _⟩ := hks'.rws.ls
            subst hvv
            clear hks hks' hbe hbv7 hha hnl hna hnb hm1 hm2 hm3 hvx hq hov hk hLkc
            go_wp2_with fail
            refine HHa.out.mono ?_
            rintro e w' ⟨rfl, rfl⟩
            go_wp2_with fail
            go_region_law (first
              | (refine step_int _ rfl (.tmp 79) (.tmp 81) rfl R (.slice ov q cv) (ints (mm T τ T.length c)) q HMm.out rfl (HRow.out.below (by first | exact Below.refl _ _ | exact (Below.refl _ _).alloc (Nat.le_refl _) _ | exact below_dn 1 (Below.refl _ _) | exact below_dn 1 ((Below.refl _ _).alloc (Nat.le_refl _) _) | exact (below_dn 1 (Below.refl _ _)).alloc (Nat.le_refl _) _)) _ (c : Int) rfl (by first | exact World.cell?_alloc_mark wr #[_] 3 (0, 0) 0 | exact World.cell?_alloc_mark _ #[_] 3 (0, 0) 0) hml (by simp; omega) ?_; intro gg cv2 w2 hr2 hgr hat; obtain ⟨hks2, hkr2⟩ := Ks.grow (HK7.out.below (by first | exact Below.refl _ _ | exact (Below.refl _ _).alloc (Nat.le_refl _) _ | exact below_dn 1 (Below.refl _ _) | exact below_dn 1 ((Below.refl _ _).alloc (Nat.le_refl _) _) | exact (below_dn 1 (Below.refl _ _)).alloc (Nat.le_refl _) _)) hlc hr2 (HVx.out.symm ▸ hgr) (HVx.out.symm ▸ hat); have hbA : Below R wr w2 := Below.grown (hg := hgr) (by first | exact Below.refl _ _ | exact (Below.refl _ _).alloc hszw _ | exact ((Below.refl _ _).alloc hszw _).drew | exact (Below.refl _ _).drew | exact ((Below.refl _ _).drew).alloc hszw _) (by simp; omega) (fun k e => (HRow.out.ownLt k e).1); have hszA := Nat.le_trans hszw hbA.size; have k6 := hks2.kbox.cell 1; have k7 : ∀ ob, (w2.alloc ob).cell? ⟨X, 1, none⟩ = some (.slice ovv k cvv) := fun ob => (hks2.kbox.alloc ob).cell 1)
              | (refine step_app2 _ rfl (.tmp 75) (.tmp 83) rfl R (.slice ovv k cvv) k vs Lk (.slice (some ⟨gg, 0, none⟩) (q + 1) cv2) _ rfl (hks2.below (by first | exact Below.refl _ _ | exact (Below.refl _ _).alloc (Nat.le_refl _) _ | exact below_dn 1 (Below.refl _ _) | exact below_dn 1 ((Below.refl _ _).alloc (Nat.le_refl _) _) | exact (below_dn 1 (Below.refl _ _)).alloc (Nat.le_refl _) _)).rws (hkr2.below (by first | exact Below.refl _ _ | exact (Below.refl _ _).alloc (Nat.le_refl _) _ | exact below_dn 1 (Below.refl _ _) | exact below_dn 1 ((Below.refl _ _).alloc (Nat.le_refl _) _) | exact (below_dn 1 (Below.refl _ _)).alloc (Nat.le_refl _) _)).row rfl (news_one _ _ _) (by omega) (by have := hbA.size; simp; omega) ?_; intro g3 cv3 w3 hown hgr3 hat3; have hks3 := Ks.push (hks2.below (by first | exact Below.refl _ _ | exact (Below.refl _ _).alloc (Nat.le_refl _) _ | exact below_dn 1 (Below.refl _ _) | exact below_dn 1 ((Below.refl _ _).alloc (Nat.le_refl _) _) | exact (below_dn 1 (Below.refl _ _)).alloc (Nat.le_refl _) _)) (by rw [HLc.out]; exact hkr2.below (by first | exact Below.refl _ _ | exact (Below.refl _ _).alloc (Nat.le_refl _) _ | exact below_dn 1 (Below.refl _ _) | exact below_dn 1 ((Below.refl _ _).alloc (Nat.le_refl _) _) | exact (below_dn 1 (Below.refl _ _)).alloc (Nat.le_refl _) _)) hown hgr3 hat3; have hbB : Below R wr w3 := hbA.trans (Below.grown (hg := hgr3) (by first | exact Below.refl _ _ | exact (Below.refl _ _).alloc hszA _ | exact ((Below.refl _ _).alloc hszA _).drew | exact (Below.refl _ _).drew | exact ((Below.refl _ _).drew).alloc hszA _) (by have := hbA.size; simp; omega) (fun k e => (own_lt hks2.rws.own e).1)); have k8 := hks3.kbox.cell 1; have f8 := hks3.kbox.open_ 1))
            all_goals
              have hksF := Lib.hid hks3.store
              have hbF := Lib.hid ((HBe.out.trans hbB).setCell (p := ⟨X, 1, none⟩) HRX.out (.slice (some ⟨g3, 0, none⟩) (k + 1) cv3))
              go_wp2_with fail
              go_roundw
              case rel => exact ⟨c + 1, _, _, by omega, by go_num, by rw [HNl.out, List.length_append, HKk.out]; exact hksF.out, hbF.out⟩
              case measure => simp [intOf]; omega
        · have e : C = c := by omega
          subst e
          have hRr := HR6.out.below hbe (by have := HW.out; omega)
          have d0 := hRr.cell 0
          have d1 := hRr.cell 1
          have f0 := hRr.open_ 0
          have f1 := hRr.open_ 1
          have c4 := hks.kbox.cell 0
          obtain ⟨ov, cv, rfl, _⟩ := hks.rws.ls
          have c5 := hks.kbox.cell 1
          have hSR : S + 1 < R := by have := HW.out; omega
          have hfb := (hRr.set 0 (.int .i64 (C : Int))).set 1 (.slice ov (nl C T).length cv)
          have hfr := ((hks.rws.set (b := S + 1) (i := 0) hSR (.int .i64 (C : Int))).set (b := S + 1) (i := 1) hSR (.slice ov (nl C T).length cv))
          have hfw := (((HBW6.out.trans (hbe.mono (by have := HB1s.out; have := HW.out; omega))).setCell (p := ⟨S + 1, 0, none⟩) (by show w.heap.size ≤ S + 1; have := HSw.out; omega) (.int .i64 (C : Int))).setCell (p := ⟨S + 1, 1, none⟩) (by show w.heap.size ≤ S + 1; have := HSw.out; omega) (.slice ov (nl C T).length cv))
          have HFB := Lib.hid hfb
          rw [← HLk.out] at hfr
          have hmx : Mn w.heap.size _ ov (nl C T).length cv C (fun i => kr T τ ((nl C T).getD i 0)) := ⟨vs, hfr.le (by have := HSw.out; omega)⟩
          have HMX := Lib.hid hmx
          have HFW := Lib.hid hfw
          clear hlc hks hbe hfb hfr hfw hmx hRr hbv7
          go_wp2_with fail
          have z0 := HFB.out.cell 0
          have z1 := HFB.out.cell 1
          simp at z0 z1
          refine bodyPost_ret (v := .tuple #[.agg #[.int .i64 (C : Int), .slice ov (nl C T).length cv], .int .i64 0]) (by simp [results, Tryd.results30, go_sem, z0, z1]) rfl ⟨_, _, rfl, HMX.out, HFW.out⟩

end Go.Proofs.YtbefkngeffpokaaDoor
