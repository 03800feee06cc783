/- Words for memory: slices of integers, blocks that are known whole, rows of the call's own. -/
import Derived.Test.YtbefkngeffpokaaDoorProg
import Derived.WalkKit
import Derived.WalkSpells
import Derived.WalkLawsBesides
import Derived.Handy
import Derived.Deep.QuietTactic
import Derived.BigQuiet
import Derived.Outline
import Derived.Laws.BitsAllLaws
import Derived.IntWalk
import Derived.Lib.SmallJoins
import Derived.Lib.Hide
import Derived.Deep.DeepCutAuto
import Derived.LoopTactic
import Derived.Deep.RegionWith
import Derived.Maps.OwnSet
import Derived.DeepKeys5
import Derived.Laws.MakeOwn
import Derived.OwnWalk
import Derived.Maps.AppendAt
import Derived.Carry
namespace Go.Proofs.YtbefkngeffpokaaDoor
set_option linter.unusedVariables false
set_option linter.unusedSimpArgs false
open Go.RowKit
theorem own : ownKnob Tryd.prog.godebug = none := by kernel_rfl
theorem laidOut : laidOutB Tryd.prog = true := by kernel_rfl

/-- A slice of n integers: its cells, where there are any. -/
def Lz (w : World) (o : Option Addr) (n : Nat) (f : Nat → Int) : Prop := 0 < n → ∃ b off, o = some ⟨b, off, none⟩ ∧ b < w.heap.size ∧ ∀ i, i < n → w.cell? ⟨b, off + i, none⟩ = some (.int .i64 (f i))
theorem Lz.below {w W : World} {o : Option Addr} {n : Nat} {f : Nat → Int} (h : Lz w o n f) (hb : Below w.heap.size w W) : Lz W o n f := fun hn => by
  obtain ⟨b, off, e, hl, hc⟩ := h hn
  exact ⟨b, off, e, Nat.lt_of_lt_of_le hl hb.size, fun i hi => (hb.cell (p := ⟨b, off + i, none⟩) hl).trans (hc i hi)⟩
theorem Lz.congr {w : World} {o : Option Addr} {n : Nat} {f g : Nat → Int} (h : Lz w o n f) (e : ∀ i, i < n → f i = g i) : Lz w o n g := fun hn => by
  obtain ⟨b, off, e1, hl, hc⟩ := h hn
  exact ⟨b, off, e1, hl, fun i hi => by rw [hc i hi, e i hi]⟩
theorem Lz.nil {w : World} {o : Option Addr} {f : Nat → Int} : Lz w o 0 f := fun h => absurd h (by omega)

/-- The cells of n integers. -/
def vec (n : Nat) (f : Nat → Int) : Array Value := ((List.range n).map fun i => Value.int .i64 (f i)).toArray
theorem vec_size (n : Nat) (f : Nat → Int) : (vec n f).size = n := by simp [vec]
theorem vec_get {n : Nat} (f : Nat → Int) {i : Nat} (h : i < n) : (vec n f)[i]? = some (.int .i64 (f i)) := by
  simp [vec, h]
/-- f, but for place i. -/
def updz (f : Nat → Int) (i : Nat) (x : Int) : Nat → Int := fun j => if j = i then x else f j
theorem vec_congr {n : Nat} {f g : Nat → Int} (h : ∀ i, i < n → f i = g i) : vec n f = vec n g := by
  unfold vec
  congr 1
  exact List.map_congr_left fun i hi => by rw [h i (List.mem_range.1 hi)]
theorem vec_set (n : Nat) (f : Nat → Int) (i : Nat) (x : Int) : (vec n f).setIfInBounds i (.int .i64 x) = vec n (updz f i x) := by
  apply Array.ext_getElem?
  intro j
  rw [Array.getElem?_setIfInBounds]
  by_cases hj : j < n
  · by_cases e : i = j
    · subst e
      rw [if_pos rfl, if_pos (by rw [vec_size]; exact hj), vec_get _ hj]
      simp [updz]
    · rw [if_neg e, vec_get _ hj, vec_get _ hj]
      simp [updz, Ne.symm e]
  · have h1 : ∀ g, (vec n g)[j]? = none := fun g => Array.getElem?_eq_none (by rw [vec_size]; omega)
    by_cases e : i = j
    · subst e
      rw [if_pos rfl, if_neg (by rw [vec_size]; exact hj), h1]
    · rw [if_neg e, h1, h1]
theorem vec_made (n : Nat) : madeCells #[Value.int .i64 0] n = vec n (fun _ => 0) := by
  apply Array.ext_getElem?
  intro j
  by_cases hj : j < n
  · rw [vec_get _ hj]
    have e : j % 1 = 0 := by omega
    simp only [madeCells, Array.getElem?_map, Array.getElem?_range, hj, if_true, Option.map_some, List.size_toArray, List.length_singleton, e]
    rfl
  · rw [Array.getElem?_eq_none (by rw [size_madeCells]; omega), Array.getElem?_eq_none (by rw [vec_size]; omega)]

/-- The block b holds these cells, none of them frozen. -/
def Box (w : World) (b : Nat) (c : Array Value) (t : TypeId) : Prop := w.heap[b]? = some (.cells c t (0, 0))
theorem Box.lt {w : World} {b : Nat} {c : Array Value} {t : TypeId} (h : Box w b c t) : b < w.heap.size := (Array.getElem?_eq_some_iff.1 h).1
theorem Box.cell {w : World} {b : Nat} {c : Array Value} {t : TypeId} (h : Box w b c t) (i : Nat) : w.cell? ⟨b, i, none⟩ = c[i]? := Joins.cell_of_block h i
theorem Box.open_ {w : World} {b : Nat} {c : Array Value} {t : TypeId} (h : Box w b c t) (i : Nat) : w.frozen? ⟨b, i, none⟩ = false := Joins.unfrozen_of_block h i
theorem Box.below {w W : World} {b B : Nat} {c : Array Value} {t : TypeId} (h : Box w b c t) (hb : Below B w W) (hB : b < B) : Box W b c t := (hb.block b hB).trans h
theorem Box.new (w : World) (c : Array Value) (t : TypeId) : Box (w.alloc (.cells c t)) w.heap.size c t := by
  show (w.heap.push _)[w.heap.size]? = _
  simp
theorem Box.alloc {w : World} {b : Nat} {c : Array Value} {t : TypeId} (h : Box w b c t) (o : Obj) : Box (w.alloc o) b c t := by
  show (w.heap.push _)[b]? = _
  rw [Array.getElem?_push, if_neg (by have := h.lt; omega)]
  exact h
theorem Box.setOther {w : World} {b : Nat} {c : Array Value} {t : TypeId} (h : Box w b c t) {d i : Nat} (hd : b ≠ d) (v : Value) : Box (w.setCell ⟨d, i, none⟩ v) b c t :=
  (Below.heap_setCell w ⟨d, i, none⟩ v b hd).trans h
theorem Box.set {w : World} {b : Nat} {c : Array Value} {t : TypeId} (h : Box w b c t) (i : Nat) (v : Value) : Box (w.setCell ⟨b, i, none⟩ v) b (c.setIfInBounds i v) t :=
  Joins.block_setCell (i := i) h v
theorem Box.grown {w W : World} {b : Nat} {c : Array Value} {t : TypeId} {row : Option Nat} (h : Box w b c t) (hg : w.grownBy W row) (hne : some b ≠ row) : Box W b c t := (hg.block b h.lt hne).trans h
theorem Box.setv {w : World} {b n : Nat} {f : Nat → Int} {t : TypeId} (h : Box w b (vec n f) t) (i : Nat) (x : Int) : Box (w.setCell ⟨b, i, none⟩ (.int .i64 x)) b (vec n (updz f i x)) t := by
  rw [← vec_set]
  exact h.set i _
theorem Box.lz {w : World} {b n : Nat} {f : Nat → Int} {t : TypeId} (h : Box w b (vec n f) t) : Lz w (some ⟨b, 0, none⟩) n f := fun _ => ⟨b, 0, rfl, h.lt, fun i hi => by
  rw [h.cell, Nat.zero_add, vec_get _ hi]⟩

/-- Below B the world is as it was, but for what lies in pb. -/
structure Kept (pb : Option Nat) (B : Nat) (w w' : World) : Prop where
  os : w'.os = w.os
  tape : w'.tape = w.tape
  output : w'.output = w.output
  size : w.heap.size ≤ w'.heap.size
  block : ∀ k, k < B → some k ≠ pb → w'.heap[k]? = w.heap[k]?
theorem Kept.refl (pb : Option Nat) (B : Nat) (w : World) : Kept pb B w w := ⟨rfl, rfl, rfl, Nat.le_refl _, fun _ _ _ => rfl⟩
theorem Kept.trans {pb : Option Nat} {B : Nat} {a b c : World} (h : Kept pb B a b) (k : Kept pb B b c) : Kept pb B a c :=
  ⟨k.os.trans h.os, k.tape.trans h.tape, k.output.trans h.output, Nat.le_trans h.size k.size, fun i hi hn => (k.block i hi hn).trans (h.block i hi hn)⟩
theorem Kept.le {pb : Option Nat} {B B' : Nat} {w w' : World} (h : Kept pb B w w') (hB : B' ≤ B) : Kept pb B' w w' := ⟨h.os, h.tape, h.output, h.size, fun k hk => h.block k (Nat.lt_of_lt_of_le hk hB)⟩
theorem Kept.of {pb : Option Nat} {B : Nat} {w w' : World} (h : Below B w w') : Kept pb B w w' := ⟨h.os, h.tape, h.output, h.size, fun k hk _ => h.block k hk⟩
theorem Kept.below {pb : Option Nat} {B : Nat} {w w' : World} (h : Kept pb B w w') (hp : ∀ k, pb = some k → B ≤ k) : Below B w w' :=
  ⟨h.os, h.tape, h.output, h.size, fun k hk => h.block k hk (fun e => by have := hp k e.symm; omega)⟩
theorem Kept.lz {pb : Option Nat} {w w' : World} {n : Nat} {f : Nat → Int} {o : Option Addr} (h : Kept pb w.heap.size w w') (hl : Lz w o n f) (hp : ∀ b off, o = some ⟨b, off, none⟩ → some b ≠ pb) : Lz w' o n f := fun hn => by
  obtain ⟨b, off, e, hlt, hc⟩ := hl hn
  exact ⟨b, off, e, Nat.lt_of_lt_of_le hlt h.size, fun i hi => (World.cell?_of_block (w := w) (a := ⟨b, off + i, none⟩) (h.block b hlt (hp b off e))).trans (hc i hi)⟩
theorem owns_block {H : Type} {P : Program} {k : TypeId} {R : Value → Option (DataW H × List MemPlace)} {b n : Nat} {D : DataW H} {w w' : World} (h : w.ownsMap P k R b n D) (e : w'.heap[b]? = w.heap[b]?) : w'.ownsMap P k R b n D := by
  obtain ⟨es, clock, hb, r⟩ := h
  exact ⟨es, clock, e.trans hb, r⟩

/-- Integers of 64 bits. -/
def In64 (x : Int) : Prop := -9223372036854775808 ≤ x ∧ x ≤ 9223372036854775807
theorem In64.wf {x : Int} (h : In64 x) : (Lit.int .i64 x).wf = true := WalkArith.wf_i64 h

theorem infoI : (Tryd.prog.info? 3).map (fun i => (i.zero, i.size, i.bytes)) = some (some (.int .i64 0), 1, 8) := by kernel_rfl
theorem run_vec (n : Nat) (hn : n ≤ 65536) (w : World) : (Instr.makeSlice 25 (.int .i64 (n : Int)) (.int .i64 (n : Int))).run Tryd.prog w = .ok (.slice (some ⟨w.heap.size, 0, none⟩) n n) (w.alloc (.cells (vec n (fun _ => 0)) 3)) := by
  obtain ⟨i0, hi, hz0, hz1, hz2⟩ := info_parts infoI
  have hr := run_make (P := Tryd.prog) w 25 3 i0 (.int .i64 0) Tryd.underlying25 hi hz0 .i64 .i64 n n (by omega) (by omega) (by rw [hz2]; omega) (by omega)
  rw [hr, hz1]
  simp only [Int.toNat_natCast, Nat.mul_one]
  rw [← vec_made]
  rfl
/-- The integers of a function of numbers. -/
def zf (p : Nat → Nat) : Nat → Int := fun i => (p i : Int)
/-- A list and an error come back. -/
def PRes (n : Nat) (g : Nat → Int) (c : Int) (w : World) (e : Ending) (w' : World) : Prop := ∃ o cap, e = .returned (.tuple #[.slice o n cap, .int .i64 c]) ∧ Lz w' o n g ∧ Below w.heap.size w w'
/-- A list comes back. -/
def LRes (n : Nat) (g : Nat → Int) (w : World) (e : Ending) (w' : World) : Prop := ∃ o cap, e = .returned (.slice o n cap) ∧ Lz w' o n g ∧ Below w.heap.size w w'
/-- A slice of integers below block B. -/
def Lb (B : Nat) (w : World) (o : Option Addr) (n : Nat) (f : Nat → Int) : Prop := 0 < n → ∃ b off, o = some ⟨b, off, none⟩ ∧ b < B ∧ ∀ i, i < n → w.cell? ⟨b, off + i, none⟩ = some (.int .i64 (f i))
theorem Lz.at_ {w : World} {o : Option Addr} {n : Nat} {f : Nat → Int} (h : Lz w o n f) : Lb w.heap.size w o n f := h
theorem Lb.lz {B : Nat} {w : World} {o : Option Addr} {n : Nat} {f : Nat → Int} (h : Lb B w o n f) (hB : B ≤ w.heap.size) : Lz w o n f := fun hn => by
  obtain ⟨b, off, e, hl, hc⟩ := h hn
  exact ⟨b, off, e, by omega, hc⟩
theorem Lb.below {B : Nat} {w W : World} {o : Option Addr} {n : Nat} {f : Nat → Int} (h : Lb B w o n f) (hb : Below B w W) : Lb B W o n f := fun hn => by
  obtain ⟨b, off, e, hl, hc⟩ := h hn
  exact ⟨b, off, e, hl, fun i hi => (hb.cell (p := ⟨b, off + i, none⟩) hl).trans (hc i hi)⟩
theorem Lb.more {B B' : Nat} {w : World} {o : Option Addr} {n : Nat} {f : Nat → Int} (h : Lb B w o n f) (hB : B ≤ B') : Lb B' w o n f := fun hn => by
  obtain ⟨b, off, e, hl, hc⟩ := h hn
  exact ⟨b, off, e, by omega, hc⟩

theorem below_dn {B : Nat} {w W : World} (n : Nat) (h : Below B w W) : Below B w (W.drewN n) := ⟨h.os, h.tape, h.output, h.size, h.block⟩
def lsv (l : List Int) : List Value := l.map (Value.int .i64)
/-- v is a row of the call's own, from block R on, with these integers. -/
def Row (w : World) (R : Nat) (v : Value) (l : List Int) : Prop := w.ownsRow R 3 1 v l.length (lsv l)
theorem Row.nil (w : World) (R : Nat) : Row w R (.slice none 0 0) [] := World.ownsRow_nil _ _ _ _
theorem Row.cases {w : World} {R : Nat} {v : Value} {l : List Int} (h : Row w R v l) : (v = .slice none 0 0 ∧ l = []) ∨ ∃ g cap, v = .slice (some ⟨g, 0, none⟩) l.length cap ∧ R ≤ g ∧ g < w.heap.size ∧ ∀ i, (hi : i < l.length) → w.cell? ⟨g, i, none⟩ = some (.int .i64 l[i]) := by
  rcases h.2 with ⟨h0, h1⟩ | ⟨g, cap, cur, h0, hHL, hLc, hcl, hcm, hcs, htk⟩
  · exact .inl ⟨h0, List.eq_nil_of_length_eq_zero h1⟩
  · refine .inr ⟨g, cap, h0, hHL, (Array.getElem?_eq_some_iff.1 hLc).1, fun i hi => ?_⟩
    have e : (lsv l)[i]? = some (.int .i64 l[i]) := by unfold lsv; rw [List.getElem?_map, List.getElem?_eq_getElem hi]; rfl
    rw [Joins.cell_of_block hLc, ← e, ← htk, List.getElem?_take, if_pos (by omega), Array.getElem?_toList]
theorem Row.shape {w : World} {R : Nat} {v : Value} {l : List Int} (h : Row w R v l) : ∃ o cap, v = .slice o l.length cap ∧ Lz w o l.length (fun i => l.getD i 0) := by
  rcases h.cases with ⟨rfl, rfl⟩ | ⟨g, cap, rfl, _, hg, hc⟩
  · exact ⟨none, 0, rfl, Lz.nil⟩
  · refine ⟨_, cap, rfl, fun hn => ⟨g, 0, rfl, hg, fun i hi => ?_⟩⟩
    rw [Nat.zero_add, hc i hi]
    show _ = some (Value.int .i64 (l.getD i 0))
    rw [List.getD_eq_getElem?_getD, List.getElem?_eq_getElem hi]
    rfl
theorem Row.keep {w w' : World} {R : Nat} {v : Value} {l : List Int} (h : Row w R v l) (hk : ∀ k, R ≤ k → k < w.heap.size → w'.heap[k]? = w.heap[k]?) : Row w' R v l := by
  refine ⟨h.1, ?_⟩
  rcases h.2 with h0 | ⟨g, cap, cur, h1, h2, h3, h4⟩
  · exact .inl h0
  · exact .inr ⟨g, cap, cur, h1, h2, (hk g h2 (Array.getElem?_eq_some_iff.1 h3).1).trans h3, h4⟩
theorem Row.below {w w' : World} {R : Nat} {v : Value} {l : List Int} (h : Row w R v l) (hb : Below w.heap.size w w') : Row w' R v l := h.keep fun k _ hk => hb.block k hk
theorem Row.alloc {w : World} {R : Nat} {v : Value} {l : List Int} (h : Row w R v l) (o : Obj) : Row (w.alloc o) R v l := h.below ((Below.refl _ _).alloc (Nat.le_refl _) o)
theorem Row.drew {w : World} {R : Nat} {v : Value} {l : List Int} (h : Row w R v l) : Row w.drew R v l := h
theorem Row.set {w : World} {R : Nat} {v : Value} {l : List Int} (h : Row w R v l) {b i : Nat} (hb : b < R) (x : Value) : Row (w.setCell ⟨b, i, none⟩ x) R v l :=
  h.keep fun k h1 h2 => Below.heap_setCell _ _ _ _ (by simp; omega)

/-- append of one integer to a row of the call's own. -/
theorem app_int {ops : Array Oper} {rest : List Oper} {o : Oper} {a : Act} {Q : Exit → Act → World → Prop} (w : World) (hgd : o.guard = none) (s x : Operand)
    (ho : o.op = .call { callee := .builtin .append, args := #[s, x], argTypes := #[25, 25] })
    (R : Nat) (v : Value) (l : List Int) (hs : a.eval s = v) (hrow : Row w R v l) (b : Nat) (z : Int) (hx : a.eval x = .slice (some ⟨b, 0, none⟩) 1 1) (hc : w.cell? ⟨b, 0, none⟩ = some (.int .i64 z)) (hl : l.length ≤ 1000000) (hR : R ≤ w.heap.size)
    (h : ∀ (g cap : Nat) w', Row w' R (.slice (some ⟨g, 0, none⟩) (l.length + 1) cap) (l ++ [z]) → Below R w w' → R ≤ g → wpList Tryd.prog ops Q rest (a.put o.dst (.slice (some ⟨g, 0, none⟩) (l.length + 1) cap)) w') :
    wpList Tryd.prog ops Q (o :: rest) a w := by
  obtain ⟨i0, hi, hz0, hz1, hz2⟩ := info_parts infoI
  refine wpList_append_own _ hgd s x 25 ho R 3 i0 (.int .i64 0) 1 8 Tryd.underlying25 hi hz0 hz1 hz2 rfl (by decide) v l.length (lsv l) hs hrow ⟨b, 0, none⟩ 1 1 [.int .i64 z] hx rfl ?_ ?_ ?_ ?_ hR ?_
  · intro j u hu
    match j, hu with
    | 0, hu =>
      simp at hu
      subst hu
      exact hc
    | j + 1, hu => simp at hu
  · intro u hu; simp at hu; rw [hu]; rfl
  · unfold maxLen; omega
  · omega
  · intro v' w' hown hgrow _
    have hr : Row w' R v' (l ++ [z]) := by
      have e : lsv l ++ [.int .i64 z] = lsv (l ++ [z]) := by simp [lsv]
      unfold Row
      rw [List.length_append, List.length_singleton, ← e]
      exact hown
    have hb : Below R w w' := (Below.refl _ _).grown hgrow hR (fun k hk => (hrow.lt k hk).1)
    rcases hr.cases with ⟨_, h1⟩ | ⟨g, cap, h1, h2, _, _⟩
    · simp at h1
    · rw [List.length_append, List.length_singleton] at h1
      subst h1
      exact h g cap w' hr hb h2
theorem Row.shape' {w : World} {R k : Nat} {v : Value} {l : List Int} (h : Row w R v l) (hk : l.length = k) : ∃ o cap, v = .slice o k cap ∧ ∀ j, j < k → ∃ g, o = some ⟨g, 0, none⟩ ∧ R ≤ g := by
  subst hk
  rcases h.cases with ⟨rfl, rfl⟩ | ⟨g, cap, rfl, hR, hg, hc⟩
  · exact ⟨none, 0, rfl, fun j hj => absurd hj (Nat.not_lt_zero _)⟩
  · exact ⟨_, cap, rfl, fun j hj => ⟨g, rfl, hR⟩⟩
theorem Row.cellAt {w : World} {R g k cap j : Nat} {l : List Int} {x : Int} (h : Row w R (.slice (some ⟨g, 0, none⟩) k cap) l) (hx : l[j]? = some x) : w.cell? ⟨g, j, none⟩ = some (.int .i64 x) := by
  rcases h.cases with ⟨h1, _⟩ | ⟨g', cap', h1, _, _, hc⟩
  · cases h1
  · obtain ⟨hj, hx⟩ := List.getElem?_eq_some_iff.1 hx
    cases h1
    rw [hc j hj, hx]
theorem Row.off {w : World} {R g k cap : Nat} {l : List Int} (h : Row w R (.slice (some ⟨g, 0, none⟩) k cap) l) : R ≤ g := by
  rcases h.cases with ⟨h1, _⟩ | ⟨g', cap', h1, h2, _, hc⟩
  · cases h1
  · cases h1; exact h2
/-- The first i parents are laid. -/
def idf (i : Nat) : Nat → Int := fun j => if j < i then (j : Int) else 0
theorem idf_step (n i : Nat) : vec n (updz (idf i) i (i : Int)) = vec n (idf (i + 1)) := vec_congr fun j _ => by
  unfold updz idf
  by_cases e : j = i
  · subst e; simp
  · rw [if_neg e]
    by_cases h1 : j < i
    · rw [if_pos h1, if_pos (by omega)]
    · rw [if_neg h1, if_neg (by omega)]

/-- A slice of k lists of integers. -/
def Ls (w : World) (o : Option Addr) (k : Nat) (L : Nat → List Int) : Prop := 0 < k → ∃ b off, o = some ⟨b, off, none⟩ ∧ b < w.heap.size ∧ ∀ c, c < k → ∃ oc capc, w.cell? ⟨b, off + c, none⟩ = some (.slice oc (L c).length capc) ∧ Lz w oc (L c).length (fun j => (L c).getD j 0)
theorem Ls.below {w W : World} {o : Option Addr} {k : Nat} {L : Nat → List Int} (h : Ls w o k L) (hb : Below w.heap.size w W) : Ls W o k L := fun hn => by
  obtain ⟨b, off, e, hl, hc⟩ := h hn
  refine ⟨b, off, e, Nat.lt_of_lt_of_le hl hb.size, fun c hk => ?_⟩
  obtain ⟨oc, capc, h1, h2⟩ := hc c hk
  exact ⟨oc, capc, (hb.cell (p := ⟨b, off + c, none⟩) hl).trans h1, h2.below hb⟩
theorem Lz.drewN {w : World} {o : Option Addr} {n : Nat} {f : Nat → Int} (h : Lz w o n f) (d : Nat) : Lz (w.drewN d) o n f := h
theorem Ls.nil {w : World} {o : Option Addr} {L : Nat → List Int} : Ls w o 0 L := fun h => absurd h (Nat.not_lt_zero _)
theorem app_int2 {ops : Array Oper} {rest : List Oper} {o : Oper} {a : Act} {Q : Exit → Act → World → Prop} (w : World) (hgd : o.guard = none) (s x : Operand)
    (ho : o.op = .call { callee := .builtin .append, args := #[s, x], argTypes := #[25, 25] })
    (R : Nat) (v : Value) (l : List Int) (hs : a.eval s = v) (hrow : Row w R v l) (b : Nat) (z : Int) (hx : a.eval x = .slice (some ⟨b, 0, none⟩) 1 1) (hc : w.cell? ⟨b, 0, none⟩ = some (.int .i64 z)) (hl : l.length ≤ 1000000) (hR : R ≤ w.heap.size)
    (h : ∀ (g cap : Nat) w', Row w' R (.slice (some ⟨g, 0, none⟩) (l.length + 1) cap) (l ++ [z]) → w.grownBy w' v.ownBlock → (some g = v.ownBlock ∨ g = w.heap.size) → wpList Tryd.prog ops Q rest (a.put o.dst (.slice (some ⟨g, 0, none⟩) (l.length + 1) cap)) w') :
    wpList Tryd.prog ops Q (o :: rest) a w := by
  obtain ⟨i0, hi, hz0, hz1, hz2⟩ := info_parts infoI
  refine wpList_append_own_at _ hgd s x 25 ho R 3 i0 (.int .i64 0) 1 8 Tryd.underlying25 hi hz0 hz1 hz2 rfl (by decide) v l.length (lsv l) hs hrow ⟨b, 0, none⟩ 1 1 [.int .i64 z] hx rfl ?_ ?_ ?_ ?_ hR ?_
  · intro j u hu
    match j, hu with
    | 0, hu =>
      simp at hu
      subst hu
      exact hc
    | j + 1, hu => simp at hu
  · intro u hu; simp at hu; rw [hu]; rfl
  · unfold maxLen; omega
  · omega
  · intro v' w' hown hgrow _ hat
    have hr : Row w' R v' (l ++ [z]) := by
      have e : lsv l ++ [.int .i64 z] = lsv (l ++ [z]) := by simp [lsv]
      unfold Row
      rw [List.length_append, List.length_singleton, ← e]
      exact hown
    rcases hr.cases with ⟨_, h1⟩ | ⟨g, cap, h1, h2, _, _⟩
    · simp at h1
    · rw [List.length_append, List.length_singleton] at h1
      subst h1
      exact h g cap w' hr hgrow (hat.imp id (fun e => by simpa [Value.ownBlock] using e))
theorem infoL : (Tryd.prog.info? 25).map (fun i => (i.zero, i.size, i.bytes)) = some (some (.slice none 0 0), 1, 24) := by kernel_rfl
/-- The first n integers of f. -/
def lsf (n : Nat) (f : Nat → Int) : List Int := (List.range n).map f
theorem lsf_snoc (i : Nat) (f : Nat → Int) : lsf i f ++ [f i] = lsf (i + 1) f := by
  unfold lsf
  rw [List.range_succ, List.map_append]
  rfl
/-- The cells of k slices. -/
def vcells (k : Nat) (V : Nat → Value) : Array Value := ((List.range k).map V).toArray
theorem vcells_size (k : Nat) (V : Nat → Value) : (vcells k V).size = k := by simp [vcells]
theorem vcells_get {k : Nat} (V : Nat → Value) {i : Nat} (h : i < k) : (vcells k V)[i]? = some (V i) := by simp [vcells, h]
def updv (V : Nat → Value) (i : Nat) (x : Value) : Nat → Value := fun j => if j = i then x else V j
theorem vcells_set (k : Nat) (V : Nat → Value) (i : Nat) (x : Value) : (vcells k V).setIfInBounds i x = vcells k (updv V i x) := by
  apply Array.ext_getElem?
  intro j
  rw [Array.getElem?_setIfInBounds]
  by_cases hj : j < k
  · by_cases e : i = j
    · subst e
      rw [if_pos rfl, if_pos (by rw [vcells_size]; exact hj), vcells_get _ hj]
      simp [updv]
    · rw [if_neg e, vcells_get _ hj, vcells_get _ hj]
      simp [updv, Ne.symm e]
  · have h1 : ∀ g, (vcells k g)[j]? = none := fun g => Array.getElem?_eq_none (by rw [vcells_size]; omega)
    by_cases e : i = j
    · subst e
      rw [if_pos rfl, if_neg (by rw [vcells_size]; exact hj), h1]
    · rw [if_neg e, h1, h1]
theorem vcells_made (k : Nat) : madeCells #[Value.slice none 0 0] k = vcells k (fun _ => .slice none 0 0) := by
  apply Array.ext_getElem?
  intro j
  by_cases hj : j < k
  · rw [vcells_get _ hj]
    have e : j % 1 = 0 := by omega
    simp only [madeCells, Array.getElem?_map, Array.getElem?_range, hj, if_true, Option.map_some, List.size_toArray, List.length_singleton, e]
    rfl
  · rw [Array.getElem?_eq_none (by rw [size_madeCells]; omega), Array.getElem?_eq_none (by rw [vcells_size]; omega)]
theorem run_vecs (n : Nat) (hn : n ≤ 65536) (w : World) : (Instr.makeSlice 22 (.int .i64 (n : Int)) (.int .i64 (n : Int))).run Tryd.prog w = .ok (.slice (some ⟨w.heap.size, 0, none⟩) n n) (w.alloc (.cells (vcells n (fun _ => .slice none 0 0)) 25)) := by
  obtain ⟨i0, hi, hz0, hz1, hz2⟩ := info_parts infoL
  have hr := run_make (P := Tryd.prog) w 22 25 i0 (.slice none 0 0) Tryd.underlying22 hi hz0 .i64 .i64 n n (by omega) (by omega) (by rw [hz2]; omega) (by omega)
  rw [hr, hz1]
  simp only [Int.toNat_natCast, Nat.mul_one]
  rw [← vcells_made]
  rfl
theorem Row.ownLt {w : World} {R : Nat} {v : Value} {l : List Int} (h : Row w R v l) : ∀ g, v.ownBlock = some g → R ≤ g ∧ g < w.heap.size := h.lt
theorem Row.grown {w w' : World} {R : Nat} {v u : Value} {l : List Int} (h : Row w R v l) (hg : w.grownBy w' u.ownBlock) (hne : v.ownBlock = none ∨ v.ownBlock ≠ u.ownBlock) : Row w' R v l := World.ownsRow.kept h hg hne
theorem own_cases {w : World} {R : Nat} {e : TypeId} {v : Value} {n : Nat} {xs : List Value} (h : w.ownsRow R e 1 v n xs) : (v = .slice none 0 0 ∧ n = 0) ∨ ∃ g cap, v = .slice (some ⟨g, 0, none⟩) n cap ∧ R ≤ g ∧ g < w.heap.size ∧ ∀ i u, xs[i]? = some u → w.cell? ⟨g, i, none⟩ = some u := by
  rcases h.2 with ⟨h0, h1⟩ | ⟨g, cap, cur, h0, hHL, hLc, hcl, hcm, hcs, htk⟩
  · exact .inl ⟨h0, h1⟩
  · refine .inr ⟨g, cap, h0, hHL, (Array.getElem?_eq_some_iff.1 hLc).1, fun i u hu => ?_⟩
    have hi : i < n := by
      have h2 := (List.getElem?_eq_some_iff.1 hu).1
      have h3 := h.1
      omega
    rw [Joins.cell_of_block hLc, ← hu, ← htk, List.getElem?_take, if_pos (by omega), Array.getElem?_toList]
theorem own_keep {w w' : World} {R : Nat} {e : TypeId} {v : Value} {n : Nat} {xs : List Value} (h : w.ownsRow R e 1 v n xs) (hk : ∀ k, R ≤ k → k < w.heap.size → w'.heap[k]? = w.heap[k]?) : w'.ownsRow R e 1 v n xs := by
  refine ⟨h.1, ?_⟩
  rcases h.2 with h0 | ⟨g, cap, cur, h1, h2, h3, h4⟩
  · exact .inl h0
  · exact .inr ⟨g, cap, cur, h1, h2, (hk g h2 (Array.getElem?_eq_some_iff.1 h3).1).trans h3, h4⟩
theorem Row.le {w : World} {R R' : Nat} {v : Value} {l : List Int} (h : Row w R v l) (hR : R' ≤ R) : Row w R' v l := by
  refine ⟨h.1, ?_⟩
  rcases h.2 with h0 | ⟨g, cap, cur, h1, h2, h3⟩
  · exact .inl h0
  · exact .inr ⟨g, cap, cur, h1, by omega, h3⟩
theorem Row.one {w : World} {R : Nat} {v : Value} {l : List Int} (h : Row w R v l) : v.oneCell' = true := by
  rcases h.cases with ⟨rfl, _⟩ | ⟨g, cap, rfl, _⟩ <;> rfl
/-- A row of rows; none of them lies in the row itself. -/
structure Rws (w : World) (R : Nat) (v : Value) (k : Nat) (vs : List Value) (L : Nat → List Int) : Prop where
  own : w.ownsRow R 25 1 v k vs
  rows : ∀ c, c < k → ∃ u, vs[c]? = some u ∧ Row w R u (L c) ∧ (u.ownBlock = none ∨ u.ownBlock ≠ v.ownBlock)
theorem Rws.below {w w' : World} {R k : Nat} {v : Value} {vs : List Value} {L : Nat → List Int} (h : Rws w R v k vs L) (hb : Below w.heap.size w w') : Rws w' R v k vs L :=
  ⟨own_keep h.own fun j _ hj => hb.block j hj, fun c hc => by obtain ⟨u, h1, h2, h3⟩ := h.rows c hc; exact ⟨u, h1, h2.below hb, h3⟩⟩
theorem Rws.ls {w : World} {R k : Nat} {v : Value} {vs : List Value} {L : Nat → List Int} (h : Rws w R v k vs L) : ∃ o cap, v = .slice o k cap ∧ Ls w o k L := by
  rcases own_cases h.own with ⟨rfl, rfl⟩ | ⟨g, cap, rfl, _, hg, hc⟩
  · exact ⟨none, 0, rfl, Ls.nil⟩
  · refine ⟨_, cap, rfl, fun hn => ⟨g, 0, rfl, hg, fun c hck => ?_⟩⟩
    obtain ⟨u, h1, h2, _⟩ := h.rows c hck
    obtain ⟨oc, cc, rfl, hl⟩ := h2.shape
    exact ⟨oc, cc, by rw [Nat.zero_add]; exact hc c _ h1, hl⟩
theorem Rws.step {w w' : World} {R k : Nat} {v v' u : Value} {vs : List Value} {L : Nat → List Int} (h : Rws w R v k vs L) (hu : Row w R u (L k)) (hux : u.ownBlock = none ∨ u.ownBlock ≠ v.ownBlock) (hown : w'.ownsRow R 25 1 v' (k + 1) (vs ++ [u])) (hg : w.grownBy w' v.ownBlock) (hat : v'.ownBlock = v.ownBlock ∨ v'.ownBlock = some w.heap.size) : Rws w' R v' (k + 1) (vs ++ [u]) L := by
  have hlen : vs.length = k := by have := h.own.1; omega
  refine ⟨hown, fun c hc => ?_⟩
  have key : ∀ x l, Row w R x l → (x.ownBlock = none ∨ x.ownBlock ≠ v.ownBlock) → Row w' R x l ∧ (x.ownBlock = none ∨ x.ownBlock ≠ v'.ownBlock) := by
    intro x l hx hxv
    refine ⟨hx.grown hg hxv, ?_⟩
    rcases hat with e | e
    · rw [e]; exact hxv
    · rw [e]
      right
      intro e2
      have := hx.ownLt _ e2
      omega
  by_cases e : c = k
  · subst e
    exact ⟨u, by rw [List.getElem?_append_right (by omega), hlen]; simp, key u _ hu hux⟩
  · obtain ⟨x, h1, h2, h3⟩ := h.rows c (by omega)
    exact ⟨x, by rw [List.getElem?_append_left (by omega)]; exact h1, key x _ h2 h3⟩
/-- A list as a function. -/
def fl (l : List Int) : Nat → Int := fun i => l.getD i 0
theorem vec_fl (l : List Int) : vec l.length (fl l) = (lsv l).toArray := by
  unfold vec lsv
  congr 1
  apply List.ext_getElem?
  intro i
  rw [List.getElem?_map, List.getElem?_map]
  by_cases h : i < l.length
  · rw [List.getElem?_range h, List.getElem?_eq_getElem h]
    simp [fl, List.getD_eq_getElem?_getD, List.getElem?_eq_getElem h]
  · rw [List.getElem?_eq_none (by simp; omega), List.getElem?_eq_none (by omega)]
    rfl
theorem lz_lit (l : List Int) (W : World) (t : TypeId) : Lz (W.alloc (.cells (lsv l).toArray t)) (some ⟨W.heap.size, 0, none⟩) l.length (fl l) := by
  have h := Box.new W (vec l.length (fl l)) t
  rw [vec_fl] at h
  have h2 : Box (W.alloc (.cells (lsv l).toArray t)) W.heap.size (vec l.length (fl l)) t := by rw [vec_fl]; exact h
  exact h2.lz
theorem pres_to {n : Nat} {f g : Nat → Int} {c : Int} {w : World} {e : Ending} {w' : World} (h : PRes n f c w e w') (hfg : ∀ i, i < n → f i = g i) : PRes n g c w e w' := by
  obtain ⟨o, cap, h1, h2, h3⟩ := h
  exact ⟨o, cap, h1, h2.congr hfg, h3⟩
theorem still {f : Nat} {a : Array Value} {v : Value} {w : World} (h : Calls Tryd.prog f a w fun e w' => e = .returned v ∧ w = w') : Calls Tryd.prog f a w fun e w' => e = .returned v ∧ Below w.heap.size w w' := by
  refine h.mono ?_
  rintro e w' ⟨rfl, rfl⟩
  exact ⟨rfl, Below.refl _ _⟩
end Go.Proofs.YtbefkngeffpokaaDoor
