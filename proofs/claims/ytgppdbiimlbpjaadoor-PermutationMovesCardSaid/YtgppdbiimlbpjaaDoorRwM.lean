/- Package permutation: the iterator over the cycles. -/
import Derived.Test.YtgppdbiimlbpjaaDoorRwL
import Derived.WalkKit
import Derived.WalkSpells
import Derived.WalkLawsBesides
import Derived.Handy
import Derived.Deep.QuietTactic
import Derived.BigQuiet
import Derived.Outline
import Derived.Laws.BitsAllLaws
import Derived.IntWalk
import Derived.Lib.SmallJoins
import Derived.Lib.Hide
import Derived.Deep.DeepCutAuto
import Derived.LoopTactic
import Derived.Deep.RegionWith
import Derived.Laws.CopyOwn
import Derived.Maps.OwnOps
import Derived.Maps.OwnSet
import Derived.Laws.OwnMore
import Derived.Maps.AppendAt
import Derived.Test.YtgppdbiimlbpjaaDoorShelF
import Derived.RangeFuncNested
import Derived.RangeFuncBound
import Derived.RangeFuncCalls
import Derived.RangeFuncLeaves
import Derived.RangeFuncBox
import Derived.RangeFuncFrom
import Derived.Shelf.Abstract
import Derived.Shelf.RegionOpen
import Derived.OwnWalkIn
import Derived.TacticsInMore
import Derived.LoopNIn
import Derived.LoopIn
namespace Go.Proofs.YtgppdbiimlbpjaaDoor
set_option linter.unusedVariables false
set_option linter.unusedSimpArgs false
open Go.RowKit Go.Shelf
attribute [local go_sem] Oper.semAt_some

/-! ### in plain numbers -/
def upb (s : Nat → Bool) (q : Nat) : Nat → Bool := fun i => if i = q then true else s i
/-- How many numbers below n are not seen. -/
def uns (n : Nat) (s : Nat → Bool) : Nat := ((List.range n).filter fun i => !s i).length
/-- One cycle: what is seen behind it, and it. -/
def walkc (a : Nat → Nat) : Nat → Nat → (Nat → Bool) → List Nat → (Nat → Bool) × List Nat
  | 0, _, s, c => (s, c)
  | f + 1, q, s, c => if s q then (s, c) else walkc a f (a q) (upb s q) (c ++ [q])
def cyco (n : Nat) (a : Nat → Nat) : Nat → (Nat → Bool) × List (List Nat)
  | 0 => (fun _ => false, [])
  | p + 1 => ((walkc a (uns n (cyco n a p).1 + 1) p (cyco n a p).1 []).1, if 1 < (walkc a (uns n (cyco n a p).1 + 1) p (cyco n a p).1 []).2.length then (cyco n a p).2 ++ [(walkc a (uns n (cyco n a p).1 + 1) p (cyco n a p).1 []).2] else (cyco n a p).2)
theorem cyco_len (n : Nat) (a : Nat → Nat) : ∀ p, (cyco n a p).2.length ≤ p
  | 0 => Nat.le_refl _
  | p + 1 => by
    have ih := cyco_len n a p
    show (if _ then _ else _ : List (List Nat)).length ≤ p + 1
    split
    · rw [List.length_append]; simp; omega
    · omega
theorem uns_step {n : Nat} {s : Nat → Bool} {q : Nat} (hq : q < n) (hs : s q = false) : uns n (upb s q) + 1 = uns n s := by
  unfold uns
  have key : ∀ l : List Nat, l.Nodup → q ∈ l → (l.filter fun i => !upb s q i).length + 1 = (l.filter fun i => !s i).length := by
    intro l
    induction l with
    | nil => intro _ h; simp at h
    | cons x l ih =>
      intro hn hm
      have hn2 := List.nodup_cons.1 hn
      by_cases e : x = q
      · subst e
        have e1 : (x :: l).filter (fun i => !upb s x i) = l.filter (fun i => !upb s x i) := List.filter_cons_of_neg (by simp [upb])
        have e2 : (x :: l).filter (fun i => !s i) = x :: l.filter (fun i => !s i) := List.filter_cons_of_pos (by simp [hs])
        rw [e1, e2, List.length_cons]
        congr 2
        apply List.filter_congr
        intro y hy
        have : y ≠ x := fun e => hn2.1 (e ▸ hy)
        simp [upb, this]
      · have hm2 : q ∈ l := by rcases List.mem_cons.1 hm with h | h; exact absurd h.symm e; exact h
        have hu : (!upb s q x) = !s x := by simp [upb, e]
        by_cases hx : s x = true
        · have e1 : (x :: l).filter (fun i => !upb s q i) = l.filter (fun i => !upb s q i) := List.filter_cons_of_neg (by simp [hu, hx])
          have e2 : (x :: l).filter (fun i => !s i) = l.filter (fun i => !s i) := List.filter_cons_of_neg (by simp [hx])
          rw [e1, e2]
          exact ih hn2.2 hm2
        · have e1 : (x :: l).filter (fun i => !upb s q i) = x :: l.filter (fun i => !upb s q i) := List.filter_cons_of_pos (by simp [hu, hx])
          have e2 : (x :: l).filter (fun i => !s i) = x :: l.filter (fun i => !s i) := List.filter_cons_of_pos (by simp [hx])
          rw [e1, e2, List.length_cons, List.length_cons, ih hn2.2 hm2]
  exact key _ List.nodup_range (List.mem_range.2 hq)
theorem uns_le (n : Nat) (s : Nat → Bool) : uns n s ≤ n := by
  unfold uns
  exact Nat.le_trans (List.length_filter_le _ _) (by simp)
theorem walkc_stop {a : Nat → Nat} {f q : Nat} {s : Nat → Bool} {c : List Nat} (h : s q = true) : walkc a f q s c = (s, c) := by
  cases f with
  | zero => rfl
  | succ f => show (if s q then _ else _) = _; rw [if_pos h]
theorem walkc_go {a : Nat → Nat} {n q : Nat} {s : Nat → Bool} {c : List Nat} (hq : q < n) (h : s q = false) : walkc a (uns n s + 1) q s c = walkc a (uns n (upb s q) + 1) (a q) (upb s q) (c ++ [q]) := by
  rw [uns_step hq h]
  show (if s q then _ else _) = _
  rw [if_neg (by simp [h])]
/-- A cell of bools. -/
def bvec (n : Nat) (s : Nat → Bool) : Nat → Value := fun i => .bool (s i)
theorem bvec_upd (n : Nat) (s : Nat → Bool) (q : Nat) : vcells n (updv (bvec n s) q (.bool true)) = vcells n (bvec n (upb s q)) := by
  unfold vcells
  congr 1
  apply List.map_congr_left
  intro i _
  unfold updv bvec upb
  by_cases e : i = q
  · rw [if_pos e, if_pos e]
  · rw [if_neg e, if_neg e]
theorem bvec_made (n : Nat) : madeCells #[Value.bool false] n = vcells n (bvec n fun _ => false) := by
  apply Array.ext_getElem?
  intro j
  by_cases hj : j < n
  · rw [vcells_get _ hj]
    have e : j % 1 = 0 := by omega
    simp only [madeCells, Array.getElem?_map, Array.getElem?_range, hj, if_true, Option.map_some, List.size_toArray, List.length_singleton, e]
    rfl
  · rw [Array.getElem?_eq_none (by rw [size_madeCells]; omega), Array.getElem?_eq_none (by rw [vcells_size]; omega)]
theorem infoB : (Tryd.prog.info? 4).map (fun i => (i.zero, i.size, i.bytes)) = some (some (.bool false), 1, 1) := by kernel_rfl
/-- What a round of the caller's leaves as it is: all but two blocks. -/
structure Tch (x y : Nat) (w w' : World) : Prop where
  size : w.heap.size ≤ w'.heap.size
  block : ∀ k, k < w.heap.size → k ≠ x → k ≠ y → w'.heap[k]? = w.heap[k]?
theorem Tch.refl (x y : Nat) (w : World) : Tch x y w w := ⟨Nat.le_refl _, fun _ _ _ _ => rfl⟩
theorem Tch.trans {x y : Nat} {a b c : World} (h : Tch x y a b) (k : Tch x y b c) : Tch x y a c := ⟨Nat.le_trans h.size k.size, fun i hi h1 h2 => (k.block i (Nat.lt_of_lt_of_le hi h.size) h1 h2).trans (h.block i hi h1 h2)⟩
theorem Tch.of {x y : Nat} {w w' : World} (h : Below w.heap.size w w') : Tch x y w w' := ⟨h.size, fun k hk _ _ => h.block k hk⟩
theorem Tch.cell {x y : Nat} {w w' : World} (h : Tch x y w w') {p : Addr} (hp : p.block < w.heap.size) (h1 : p.block ≠ x) (h2 : p.block ≠ y) : w'.cell? p = w.cell? p := World.cell?_of_block (h.block p.block hp h1 h2)
theorem Tch.box {x y : Nat} {w w' : World} (h : Tch x y w w') {b : Nat} {c : Array Value} {t : TypeId} (hb : Box w b c t) (h1 : b ≠ x) (h2 : b ≠ y) : Box w' b c t := (h.block b hb.lt h1 h2).trans hb
def lenOf : Value → Nat
  | .slice _ l _ => l
  | _ => 0
def ints (c : List Nat) : List Int := c.map fun (x : Nat) => (x : Int)
theorem row_snoc {w : World} {R q : Nat} {v : Value} {c : List Nat} (h : w.ownsRow R 3 1 v ((ints c).length + 1) (lsv (ints c) ++ [.int .i64 (q : Int)])) (hl : (ints c).length = c.length) : Row w R v (ints (c ++ [q])) := by
  have e1 : (ints (c ++ [q])).length = (ints c).length + 1 := by simp [ints]
  have e2 : lsv (ints (c ++ [q])) = lsv (ints c) ++ [.int .i64 (q : Int)] := by simp [ints, lsv]
  unfold Row
  rw [e1, e2]
  exact h
set_option maxRecDepth 100000 in
set_option maxHeartbeats 4000000 in
theorem cycles1_in (F : Fence) (m : Nat) (hF : F.fn 75) (hro : F.round = none) (hm : 1 ≤ m) (l n : Nat) (a : Nat → Nat) (ha : Good n a) (x y Bn : Nat) (o : Option Addr) (cap : Nat) (J : List (List Nat) → World → Prop) (W0 : World)
    (hx : x < W0.heap.size) (hy : y < W0.heap.size) (hBn : W0.cell? ⟨Bn, 0, none⟩ = some (.slice o n cap)) (hB1 : Bn < W0.heap.size) (hB2 : Bn ≠ x) (hB3 : Bn ≠ y) (hL : ∃ b off, o = some ⟨b, off, none⟩ ∧ b < W0.heap.size ∧ b ≠ x ∧ b ≠ y ∧ ∀ i, i < n → W0.cell? ⟨b, off + i, none⟩ = some (.int .i64 (zf a i)))
    (hJ : ∀ s A B, Below W0.heap.size A B → J s A → J s B)
    (hY : ∀ pre c oc k W, J pre W → pre.length ≤ 5 → W0.heap.size ≤ W.heap.size → (∃ b, oc = some ⟨b, 0, none⟩ ∧ W0.heap.size ≤ b ∧ b < W.heap.size ∧ ∀ i, i < c.length → W.cell? ⟨b, i, none⟩ = some (.int .i64 (zf (fun_ c) i))) → 1 < c.length → c.length ≤ 5 → (∀ i, fun_ c i < 5) → YieldAt F (m - 1) Tryd.prog l #[.slice oc c.length k] W fun e W' => e = .returned (.bool true) ∧ J (pre ++ [c]) W' ∧ Tch x y W W')
    (h0 : J [] W0) :
    CallsIn F m Tryd.prog 75 #[.func (.yield l) #[] #[], .pointer (some ⟨Bn, 0, none⟩)] W0 fun e W' => (∃ v, e = .returned v) ∧ J (cyco n a n).2 W' ∧ Tch x y W0 W' := by
  obtain ⟨i0, hi, hz0, hz1, hz2⟩ := info_parts infoI
  obtain ⟨b, off, rfl, hb1, hb2, hb3, hb4⟩ := hL
  have hn1 := ha.lo
  have hn5 := ha.hi
  have HA := Lib.hid ha
  have HC := Lib.hid hb4
  have HJ := Lib.hid hJ
  have HY := Lib.hid hY
  have HBn := Lib.hid hBn
  have H0 := Lib.hid h0
  have hmk : ∀ W, (Instr.makeSlice 105 (.int .i64 (n : Int)) (.int .i64 (n : Int))).run Tryd.prog W = .ok (.slice (some ⟨W.heap.size, 0, none⟩) n n) (W.alloc (.cells (vcells n (bvec n fun _ => false)) 4)) := fun W => by
    obtain ⟨j0, hj, hy0, hy1, hy2⟩ := info_parts infoB
    have hr := run_make (P := Tryd.prog) W 105 4 j0 (.bool false) Tryd.underlying105 hj hy0 .i64 .i64 n n (by omega) (by omega) (by rw [hy2]; omega) (by omega)
    rw [hr, hy1]
    simp only [Int.toNat_natCast, Nat.mul_one]
    rw [← bvec_made]
    rfl
  clear ha hb4 hJ hY h0
  refine callsIn_of_wp Tryd.func75 rfl hF ?_ hro
  simp only [Tryd.ntmps75, List.size_toArray, List.length_cons, List.length_nil, Nat.reduceAdd, Nat.reduceSub, Array.replicate_succ, Array.replicate_zero, List.push_toArray, List.append_toArray, List.nil_append, List.cons_append]
  gi_wp2
  gi_loopw [12] (fun p wr => ∃ k : Nat, k ≤ n ∧ p = .int .i64 (k : Int) ∧ Box wr W0.heap.size (vcells n (bvec n (cyco n a k).1)) 4 ∧ J (cyco n a k).2 wr ∧ Tch x y W0 wr) (fun p _ => n - (intOf p).toNat)
  case atStart => exact ⟨0, by omega, rfl, Box.new W0 _ _, HJ.out _ _ _ ((Below.refl _ _).alloc (Nat.le_refl _) _) H0.out, .of ((Below.refl _ _).alloc (Nat.le_refl _) _)⟩
  case round =>
    clear hmk HBn
    obtain ⟨k, hk, rfl, hbx, hj, ht⟩ := hrel
    by_cases hlt : k < n
    · obtain ⟨s0, hs0⟩ : ∃ s, (cyco n a k).1 = s := ⟨_, rfl⟩
      obtain ⟨L0, hL0⟩ : ∃ s, (cyco n a k).2 = s := ⟨_, rfl⟩
      obtain ⟨r, hr⟩ : ∃ r, walkc a (uns n s0 + 1) k s0 [] = r := ⟨_, rfl⟩
      have hnext : cyco n a (k + 1) = (r.1, if 1 < r.2.length then L0 ++ [r.2] else L0) := by
        show (_, _) = _
        rw [hs0, hL0, hr]
      rw [hs0] at hbx
      rw [hL0] at hj
      have HN := Lib.hid hnext
      have HBx := Lib.hid hbx
      have HJ0 := Lib.hid hj
      have HT := Lib.hid ht
      have hr0 : Hid (walkc a (uns n s0 + 1) k s0 [] = r) := hr
      have HL5 := Lib.hid (show L0.length ≤ 5 by rw [← hL0]; have := cyco_len n a k; omega)
      have hk1 : (k : Int) < (n : Int) := by omega
      clear hs0 hL0 hnext hbx hj ht hr
      gi_wp2
      gi_loopw [5, 6] (fun v q wl => ∃ (qq : Nat) (s : Nat → Bool) (c : List Nat), q = .int .i64 (qq : Int) ∧ qq < n ∧ Row wl (W0.heap.size + 1) v (ints c) ∧ Box wl W0.heap.size (vcells n (bvec n s)) 4 ∧ walkc a (uns n s + 1) qq s c = r ∧ J L0 wl ∧ Tch x y W0 wl ∧ c.length + uns n s ≤ n ∧ ∀ i, fun_ c i < 5) (fun v _ _ => n - lenOf v)
      case atStart => exact ⟨k, s0, [], rfl, hlt, World.ownsRow_nil _ _ _ _, HBx.out, hr0.out, HJ0.out, HT.out, by have := uns_le n s0; simpa using this, fun i => by simp [fun_]⟩
      case round =>
        clear HBx HJ0 HT hr0
        obtain ⟨q, s, c, rfl, hq, hro, hbx, hw, hj, ht, hcn, hc5⟩ := hrel
        obtain ⟨oc, cc, e1, _⟩ := hro.shape
        have hlen : (ints c).length = c.length := by simp [ints]
        rw [hlen] at e1
        subst e1
        have q0 := (hbx.cell q).trans (vcells_get _ hq)
        have q3 := hbx.open_ q
        unfold bvec at q0
        have HRo := Lib.hid hro
        have HBx := Lib.hid hbx
        have HJ0 := Lib.hid hj
        have HT := Lib.hid ht
        have HC5 := Lib.hid hc5
        have HLen := Lib.hid hlen
        have hq1 : (q : Int) < (n : Int) := by omega
        have hs1 := ht.size
        clear hro hbx hj ht hc5 hlen
        cases hsq : s q with
        | true =>
          rw [hsq] at q0
          rw [walkc_stop hsq] at hw
          have HW := Lib.hid hw
          clear hsq hw
          by_cases hc1 : 1 < c.length
          · have hcz : (1 : Int) < (c.length : Int) := by omega
            have hcd : decide (1 < c.length) = true := decide_eq_true hc1
            have hsh : ∃ g, oc = some ⟨g, 0, none⟩ ∧ W0.heap.size ≤ g ∧ g < wr.heap.size ∧ ∀ i, i < c.length → wr.cell? ⟨g, i, none⟩ = some (.int .i64 (zf (fun_ c) i)) := by
              rcases HRo.out.cases with ⟨_, h0⟩ | ⟨g, cap', e, hR, hg, hcl⟩
              · have : c.length = 0 := by rw [← HLen.out, h0]; rfl
                omega
              · injection e with e1 e2 e3
                subst e1
                refine ⟨g, rfl, by omega, hg, fun i hi => ?_⟩
                have h2 := hcl i (by rw [HLen.out]; exact hi)
                rw [h2]
                simp [ints, zf, fun_, List.getD_eq_getElem?_getD, hi]
            obtain ⟨g, rfl, hRg, hg, hcl⟩ := hsh
            obtain ⟨fn, tmps, assign, body, hyy, hR⟩ := HY.out L0 c _ cc wr HJ0.out HL5.out HT.out.size ⟨g, rfl, hRg, hg, hcl⟩ hc1 (by omega) HC5.out
            have HR := Lib.hid hR
            have HC1 := Lib.hid hc1
            clear hcl hR hc1
            gi_wp2
            refine HR.out.mono ?_
            rintro e W3 ⟨rfl, hJ3, hT3⟩
            have HJ3 := Lib.hid hJ3
            have HT3 := Lib.hid hT3
            clear hJ3 hT3
            gi_wp2
            go_roundw
            case rel =>
              have hN := HN.out
              rw [← HW.out] at hN
              refine ⟨k + 1, by omega, by go_num, by rw [hN]; exact HT3.out.box HBx.out (by omega) (by omega), ?_, HT.out.trans HT3.out⟩
              rw [hN]
              show J (if 1 < c.length then _ else _) _
              rw [if_pos HC1.out]
              exact HJ3.out
            case measure => simp [intOf]; omega
          · have hcd : decide (1 < c.length) = false := decide_eq_false hc1
            have hcz : ¬ (1 : Int) < (c.length : Int) := by omega
            clear hc1
            gi_wp2
            refine ⟨(by intro f hf; cases hf), ?_⟩
            gi_wp2
            go_roundw
            case rel =>
              have hN := HN.out
              rw [← HW.out] at hN
              refine ⟨k + 1, by omega, by go_num, by rw [hN]; exact HBx.out, ?_, HT.out⟩
              rw [hN]
              show J (if 1 < c.length then _ else _) _
              rw [if_neg (by omega)]
              exact HJ0.out
            case measure => simp [intOf]; omega
        | false =>
          rw [hsq] at q0
          rw [walkc_go hq hsq] at hw
          have hun := uns_step hq hsq
          have HW := Lib.hid hw
          have q1 : wr.cell? ⟨Bn, 0, none⟩ = _ := (HT.out.cell (p := ⟨Bn, 0, none⟩) hB1 hB2 hB3).trans hBn
          have q2 : wr.cell? ⟨b, off + q, none⟩ = _ := (HT.out.cell (p := ⟨b, off + q, none⟩) hb1 hb2 hb3).trans (HC.out q hq)
          have hap := HA.out.perm.lt q hq
          unfold zf at q2
          obtain ⟨z, hz⟩ : ∃ z, a q = z := ⟨_, rfl⟩
          rw [hz] at q2 hap HW
          clear hsq hw hz
          have hRs := (HRo.out.set (Nat.lt_succ_self W0.heap.size) (i := q) (.bool true)).alloc (.cells #[.int .i64 (q : Int)] 3)
          have hBs := (HBx.out.set q (.bool true)).alloc (.cells #[.int .i64 (q : Int)] 3)
          have hbe : Below W0.heap.size wr ((wr.setCell ⟨W0.heap.size, q, none⟩ (.bool true)).alloc (.cells #[.int .i64 (q : Int)] 3)) := ((Below.refl _ _).setCell (p := ⟨W0.heap.size, q, none⟩) (Nat.le_refl _) (.bool true)).alloc (by simpa using hs1) _
          rw [vcells_set, bvec_upd] at hBs
          have HRs := Lib.hid hRs
          have HBs := Lib.hid hBs
          have HBe := Lib.hid hbe
          have hszs : wr.heap.size < ((wr.setCell ⟨W0.heap.size, q, none⟩ (.bool true)).alloc (.cells #[.int .i64 (q : Int)] 3)).heap.size := by simp
          clear hRs hBs hbe
          gi_wp2_with (gi_at_builtin; refine wpListIn_append_own _ rfl _ _ 22 rfl (W0.heap.size + 1) 3 i0 (.int .i64 0) 1 8 Tryd.underlying22 hi hz0 hz1 hz2 rfl (by decide) _ (ints c).length (lsv (ints c)) rfl (by have h := HRs.out; unfold Row at h; rw [HLen.out] at h ⊢; exact h) ⟨wr.heap.size, 0, none⟩ 1 1 [.int .i64 (q : Int)] rfl rfl (by
              intro j u hu
              match j, hu with
              | 0, hu =>
                simp at hu
                subst hu
                have := cell_one_new (wr.setCell ⟨W0.heap.size, q, none⟩ (.bool true)) (.int .i64 (q : Int)) 3
                simpa using this 0 _ rfl
              | j + 1, hu => simp at hu) (by simp [Value.oneCell']) (by rw [HLen.out]; unfold maxLen; omega) (by rw [HLen.out]; omega) (by simp; omega) ?_; intro v' w1 hown' hgrow _; have hlow : ∀ j, (Value.slice oc c.length cc).ownBlock = some j → W0.heap.size + 1 ≤ j := fun j e => ((show Row _ _ _ _ from HRs.out).lt j e).1; have hb3 := HBe.out.grown hgrow (by simp; omega) (fun j e => by have := hlow j e; omega); have f1 := (hb3.cell (p := ⟨Bn, 0, none⟩) hB1).trans q1; have f2 := (hb3.cell (p := ⟨b, off + q, none⟩) hb1).trans q2; have HBx1 := Lib.hid (HBs.out.grown hgrow (by intro e; have := hlow _ e.symm; omega)); have HB3 := Lib.hid hb3; have HRo1 := Lib.hid (show Row w1 (W0.heap.size + 1) v' (ints (c ++ [q])) from row_snoc hown' HLen.out); obtain ⟨g', cap', rfl⟩ := ownsRow_succ hown'; clear hown' hgrow hlow hb3)
          refine ⟨⟨z, upb s q, c ++ [q], rfl, hap, HRo1.out, HBx1.out, HW.out, HJ.out _ _ _ HB3.out HJ0.out, ⟨Nat.le_trans HT.out.size HB3.out.size, fun k hk h1 h2 => (HB3.out.block k hk).trans (HT.out.block k hk h1 h2)⟩, by rw [List.length_append, List.length_singleton]; omega, fun i => ?_⟩, ?_⟩
          · have h5 := HC5.out i
            unfold fun_ at h5 ⊢
            by_cases hi' : i < c.length
            · rw [List.getD_eq_getElem?_getD, List.getElem?_append_left hi', ← List.getD_eq_getElem?_getD]; exact h5
            · rw [List.getD_eq_getElem?_getD, List.getElem?_append_right (by omega)]
              cases i - c.length with
              | zero => show q < 5; omega
              | succ t => show 0 < 5; omega
          · have := HLen.out
            simp [lenOf]
            omega
    · have e : k = n := by omega
      subst e
      clear hlt
      have HJ0 := Lib.hid hj
      have HT := Lib.hid ht
      clear hbx hj ht
      gi_wp2
      go_end0
      exact ⟨⟨_, rfl⟩, HJ0.out, HT.out⟩

end Go.Proofs.YtgppdbiimlbpjaaDoor
