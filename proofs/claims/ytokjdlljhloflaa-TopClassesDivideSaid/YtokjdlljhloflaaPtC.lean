/- Words for memory: slices of integers that lie there, blocks that are known whole, worlds that have turned in one block alone. -/
import Derived.Test.YtokjdlljhloflaaPtB
import Derived.Test.YtokjdlljhloflaaPtO
import Derived.Maps.OwnSet
import Derived.DeepKeys5
import Derived.Laws.MakeOwn
namespace Go.Proofs.Ytokjdlljhloflaa
set_option linter.unusedVariables false
set_option linter.unusedSimpArgs false
open Go.RowKit

theorem own : ownKnob Try.prog.godebug = none := by kernel_rfl
theorem laidOut : laidOutB Try.prog = true := by kernel_rfl

/-- A slice of n integers: its cells, where there are any. -/
def Lz (w : World) (o : Option Addr) (n : Nat) (f : Nat → Int) : Prop := 0 < n → ∃ b off, o = some ⟨b, off, none⟩ ∧ b < w.heap.size ∧ ∀ i, i < n → w.cell? ⟨b, off + i, none⟩ = some (.int .i64 (f i))
theorem Lz.below {w W : World} {o : Option Addr} {n : Nat} {f : Nat → Int} (h : Lz w o n f) (hb : Below w.heap.size w W) : Lz W o n f := fun hn => by
  obtain ⟨b, off, e, hl, hc⟩ := h hn
  exact ⟨b, off, e, Nat.lt_of_lt_of_le hl hb.size, fun i hi => (hb.cell (p := ⟨b, off + i, none⟩) hl).trans (hc i hi)⟩
theorem Lz.congr {w : World} {o : Option Addr} {n : Nat} {f g : Nat → Int} (h : Lz w o n f) (e : ∀ i, i < n → f i = g i) : Lz w o n g := fun hn => by
  obtain ⟨b, off, e1, hl, hc⟩ := h hn
  exact ⟨b, off, e1, hl, fun i hi => by rw [hc i hi, e i hi]⟩
theorem Lz.nil {w : World} {o : Option Addr} {f : Nat → Int} : Lz w o 0 f := fun h => absurd h (by omega)

/-- The cells of n integers. -/
def vec (n : Nat) (f : Nat → Int) : Array Value := ((List.range n).map fun i => Value.int .i64 (f i)).toArray
theorem vec_size (n : Nat) (f : Nat → Int) : (vec n f).size = n := by simp [vec]
theorem vec_get {n : Nat} (f : Nat → Int) {i : Nat} (h : i < n) : (vec n f)[i]? = some (.int .i64 (f i)) := by
  simp [vec, h]
/-- f, but for place i. -/
def updz (f : Nat → Int) (i : Nat) (x : Int) : Nat → Int := fun j => if j = i then x else f j
theorem vec_congr {n : Nat} {f g : Nat → Int} (h : ∀ i, i < n → f i = g i) : vec n f = vec n g := by
  unfold vec
  congr 1
  exact List.map_congr_left fun i hi => by rw [h i (List.mem_range.1 hi)]
theorem vec_set (n : Nat) (f : Nat → Int) (i : Nat) (x : Int) : (vec n f).setIfInBounds i (.int .i64 x) = vec n (updz f i x) := by
  apply Array.ext_getElem?
  intro j
  rw [Array.getElem?_setIfInBounds]
  by_cases hj : j < n
  · by_cases e : i = j
    · subst e
      rw [if_pos rfl, if_pos (by rw [vec_size]; exact hj), vec_get _ hj]
      simp [updz]
    · rw [if_neg e, vec_get _ hj, vec_get _ hj]
      simp [updz, Ne.symm e]
  · have h1 : ∀ g, (vec n g)[j]? = none := fun g => Array.getElem?_eq_none (by rw [vec_size]; omega)
    by_cases e : i = j
    · subst e
      rw [if_pos rfl, if_neg (by rw [vec_size]; exact hj), h1]
    · rw [if_neg e, h1, h1]
theorem vec_made (n : Nat) : madeCells #[Value.int .i64 0] n = vec n (fun _ => 0) := by
  apply Array.ext_getElem?
  intro j
  by_cases hj : j < n
  · rw [vec_get _ hj]
    have e : j % 1 = 0 := by omega
    simp only [madeCells, Array.getElem?_map, Array.getElem?_range, hj, if_true, Option.map_some, List.size_toArray, List.length_singleton, e]
    rfl
  · rw [Array.getElem?_eq_none (by rw [size_madeCells]; omega), Array.getElem?_eq_none (by rw [vec_size]; omega)]

/-- The block b holds these cells, none of them frozen. -/
def Box (w : World) (b : Nat) (c : Array Value) (t : TypeId) : Prop := w.heap[b]? = some (.cells c t (0, 0))
theorem Box.lt {w : World} {b : Nat} {c : Array Value} {t : TypeId} (h : Box w b c t) : b < w.heap.size := (Array.getElem?_eq_some_iff.1 h).1
theorem Box.cell {w : World} {b : Nat} {c : Array Value} {t : TypeId} (h : Box w b c t) (i : Nat) : w.cell? ⟨b, i, none⟩ = c[i]? := Joins.cell_of_block h i
theorem Box.open_ {w : World} {b : Nat} {c : Array Value} {t : TypeId} (h : Box w b c t) (i : Nat) : w.frozen? ⟨b, i, none⟩ = false := Joins.unfrozen_of_block h i
theorem Box.below {w W : World} {b B : Nat} {c : Array Value} {t : TypeId} (h : Box w b c t) (hb : Below B w W) (hB : b < B) : Box W b c t := (hb.block b hB).trans h
theorem Box.new (w : World) (c : Array Value) (t : TypeId) : Box (w.alloc (.cells c t)) w.heap.size c t := by
  show (w.heap.push _)[w.heap.size]? = _
  simp
theorem Box.alloc {w : World} {b : Nat} {c : Array Value} {t : TypeId} (h : Box w b c t) (o : Obj) : Box (w.alloc o) b c t := by
  show (w.heap.push _)[b]? = _
  rw [Array.getElem?_push, if_neg (by have := h.lt; omega)]
  exact h
theorem Box.setOther {w : World} {b : Nat} {c : Array Value} {t : TypeId} (h : Box w b c t) {d i : Nat} (hd : b ≠ d) (v : Value) : Box (w.setCell ⟨d, i, none⟩ v) b c t :=
  (Below.heap_setCell w ⟨d, i, none⟩ v b hd).trans h
theorem Box.set {w : World} {b : Nat} {c : Array Value} {t : TypeId} (h : Box w b c t) (i : Nat) (v : Value) : Box (w.setCell ⟨b, i, none⟩ v) b (c.setIfInBounds i v) t :=
  Joins.block_setCell (i := i) h v
theorem Box.grown {w W : World} {b : Nat} {c : Array Value} {t : TypeId} {row : Option Nat} (h : Box w b c t) (hg : w.grownBy W row) (hne : some b ≠ row) : Box W b c t := (hg.block b h.lt hne).trans h
theorem Box.setv {w : World} {b n : Nat} {f : Nat → Int} {t : TypeId} (h : Box w b (vec n f) t) (i : Nat) (x : Int) : Box (w.setCell ⟨b, i, none⟩ (.int .i64 x)) b (vec n (updz f i x)) t := by
  rw [← vec_set]
  exact h.set i _
theorem Box.lz {w : World} {b n : Nat} {f : Nat → Int} {t : TypeId} (h : Box w b (vec n f) t) : Lz w (some ⟨b, 0, none⟩) n f := fun _ => ⟨b, 0, rfl, h.lt, fun i hi => by
  rw [h.cell, Nat.zero_add, vec_get _ hi]⟩

/-- Below B the world is as it was, but for what lies in pb. -/
structure Kept (pb : Option Nat) (B : Nat) (w w' : World) : Prop where
  os : w'.os = w.os
  tape : w'.tape = w.tape
  output : w'.output = w.output
  size : w.heap.size ≤ w'.heap.size
  block : ∀ k, k < B → some k ≠ pb → w'.heap[k]? = w.heap[k]?
theorem Kept.refl (pb : Option Nat) (B : Nat) (w : World) : Kept pb B w w := ⟨rfl, rfl, rfl, Nat.le_refl _, fun _ _ _ => rfl⟩
theorem Kept.trans {pb : Option Nat} {B : Nat} {a b c : World} (h : Kept pb B a b) (k : Kept pb B b c) : Kept pb B a c :=
  ⟨k.os.trans h.os, k.tape.trans h.tape, k.output.trans h.output, Nat.le_trans h.size k.size, fun i hi hn => (k.block i hi hn).trans (h.block i hi hn)⟩
theorem Kept.le {pb : Option Nat} {B B' : Nat} {w w' : World} (h : Kept pb B w w') (hB : B' ≤ B) : Kept pb B' w w' := ⟨h.os, h.tape, h.output, h.size, fun k hk => h.block k (Nat.lt_of_lt_of_le hk hB)⟩
theorem Kept.of {pb : Option Nat} {B : Nat} {w w' : World} (h : Below B w w') : Kept pb B w w' := ⟨h.os, h.tape, h.output, h.size, fun k hk _ => h.block k hk⟩
theorem Kept.below {pb : Option Nat} {B : Nat} {w w' : World} (h : Kept pb B w w') (hp : ∀ k, pb = some k → B ≤ k) : Below B w w' :=
  ⟨h.os, h.tape, h.output, h.size, fun k hk => h.block k hk (fun e => by have := hp k e.symm; omega)⟩
theorem Kept.lz {pb : Option Nat} {w w' : World} {n : Nat} {f : Nat → Int} {o : Option Addr} (h : Kept pb w.heap.size w w') (hl : Lz w o n f) (hp : ∀ b off, o = some ⟨b, off, none⟩ → some b ≠ pb) : Lz w' o n f := fun hn => by
  obtain ⟨b, off, e, hlt, hc⟩ := hl hn
  exact ⟨b, off, e, Nat.lt_of_lt_of_le hlt h.size, fun i hi => (World.cell?_of_block (w := w) (a := ⟨b, off + i, none⟩) (h.block b hlt (hp b off e))).trans (hc i hi)⟩
theorem owns_block {H : Type} {P : Program} {k : TypeId} {R : Value → Option (DataW H × List MemPlace)} {b n : Nat} {D : DataW H} {w w' : World} (h : w.ownsMap P k R b n D) (e : w'.heap[b]? = w.heap[b]?) : w'.ownsMap P k R b n D := by
  obtain ⟨es, clock, hb, r⟩ := h
  exact ⟨es, clock, e.trans hb, r⟩

/-- Integers of 64 bits. -/
def In64 (x : Int) : Prop := -9223372036854775808 ≤ x ∧ x ≤ 9223372036854775807
theorem In64.wf {x : Int} (h : In64 x) : (Lit.int .i64 x).wf = true := WalkArith.wf_i64 h

/-! ### Maps with pairs of integers as keys -/
theorem und2 : ∃ n e, Try.prog.underlying 50 = some (.array n e) := ⟨_, _, Try.underlying50⟩
theorem law2 : Maps.Keyed Try.prog 50 := Maps.Keyed.of_law (deep_law_laid laidOut (m := 2) (by omega) (of_decide_eq_true (by kernel_rfl)) (by kernel_rfl) (by kernel_rfl))
theorem zero3 (w : World) : (zeroValue 3).run Try.prog w = .ok (.int .i64 0) w := by kernel_rfl
def kv (x : Int × Int) : Value := .agg #[.int .i64 x.1, .int .i64 x.2]
def Wf2 (x : Int × Int) : Prop := In64 x.1 ∧ In64 x.2
/-- What a key reads as. -/
noncomputable def kl (x : Int × Int) : Lit := (keyOf Try.prog 50 (kv x)).getD .nil
theorem kl_some {x : Int × Int} (h : Wf2 x) : keyOf Try.prog 50 (kv x) = some (kl x) := by
  have hs : ∃ l, keyOf Try.prog 50 (kv x) = some l := by
    have h1 := h.1.wf
    have h2 := h.2.wf
    have hk : Try.prog.keyType 50 = true := by kernel_rfl
    have hc : Try.prog.cellsOf 50 = 2 := by kernel_rfl
    have hc3 : Try.prog.cellsOf 3 = 1 := by kernel_rfl
    have hsz : ∃ m, Try.prog.types.size = m + 1 := ⟨Try.prog.types.size - 1, by kernel_rfl⟩
    obtain ⟨m, hm⟩ := hsz
    unfold keyOf
    rw [Try.underlying50]
    simp only [hk, hm]
    simp [kv, Value.formed, Try.underlying50, hc, Value.cells, Program.keyLits, hc3, Try.underlying3, List.range_succ, h1, h2]
  obtain ⟨l, hl⟩ := hs
  unfold kl
  rw [hl]; rfl
theorem kl_inj {x y : Int × Int} (hx : Wf2 x) (hy : Wf2 y) (h : kl x = kl y) : x = y := by
  have e := law2.inj (kl_some hx) (h ▸ kl_some hy)
  simp [kv] at e
  exact Prod.ext e.1 e.2
theorem kl_key {x : Int × Int} (hx : Wf2 x) : WideAt.IsKeyLit (kl x) := law2.key (kl_some hx)

open Part in
/-- The datum numbers the keys of the list. -/
structure Num (D : DataW Unit) (l : List (Int × Int)) : Prop where
  tidy : Maps.Tidy D
  has : ∀ x, Wf2 x → Maps.has D (kl x) = decide (x ∈ l)
  at_ : ∀ x, Wf2 x → x ∈ l → D.atKey (kl x) (.lit (.int .i64 0)) = .lit (.int .i64 (Part.ix l x : Nat))
  size : Maps.size D = l.length
theorem Num.nil : Num (.map []) [] := ⟨Maps.tidy_empty, fun x _ => by simp [Maps.has_eq], fun x _ h => by simp at h, by simp [Maps.size_eq]⟩
theorem Num.snoc {D : DataW Unit} {l : List (Int × Int)} (h : Num D l) {x : Int × Int} (hx : Wf2 x) (hn : x ∉ l) : Num (D.put (kl x) (.lit (.int .i64 (l.length : Nat)))) (l ++ [x]) := by
  refine ⟨h.tidy.put (kl_key hx) _, fun y hy => ?_, fun y hy hm => ?_, ?_⟩
  · by_cases e : y = x
    · subst e
      rw [Maps.has_put_same h.tidy.isMap (kl_key hx)]
      simp
    · rw [Maps.has_put_other (fun e2 => e (kl_inj hy hx e2)), h.has y hy]
      simp [e]
  · by_cases e : y = x
    · subst e
      rw [Maps.atKey_put_same h.tidy.isMap (kl_key hx)]
      rw [Part.ix_new hn]
    · rw [Maps.atKey_put_other (fun e2 => e (kl_inj hy hx e2))]
      have hm2 : y ∈ l := by simpa [e] using hm
      rw [h.at_ y hy hm2, Part.ix_old hm2]
  · rw [Maps.size_put h.tidy, h.has x hx]
    simp [hn, h.size]
end Go.Proofs.Ytokjdlljhloflaa
