/- TopClassesDivide: plain facts, sorting in place, meet and join. -/
import Derived.Test.YtokjdlljhloflaaTcS
import Derived.Test.YtokjdlljhloflaaPtX
import Derived.Test.YtokjdlljhloflaaPtR
import Derived.WalkKit
import Derived.WalkSpells
import Derived.WalkLawsBesides
import Derived.Handy
import Derived.Deep.QuietTactic
import Derived.BigQuiet
import Derived.Outline
import Derived.Laws.BitsAllLaws
import Derived.IntWalk
import Derived.Lib.SmallJoins
import Derived.Lib.Hide
import Derived.Deep.DeepCutAuto
import Derived.LoopTactic
import Derived.Deep.RegionWith
namespace Go.Proofs.Ytokjdlljhloflaa
set_option linter.unusedVariables false
set_option linter.unusedSimpArgs false
open Go.RowKit Part Go.Sort

theorem bnd_all : ∀ n, 1 ≤ n → n ≤ 5 → ∀ l, l ∈ pls n → (1 ≤ (cls (fn l) n).length ∧ (cls (fn l) n).length ≤ 5) ∧ ∀ c, c ∈ cls (fn l) n → 0 < c ∧ c < 32 := by
  have key : ∀ n : Fin 6, 1 ≤ n.val → ∀ l, l ∈ pls n.val → (1 ≤ (cls (fn l) n.val).length ∧ (cls (fn l) n.val).length ≤ 5) ∧ ∀ c, c ∈ cls (fn l) n.val → 0 < c ∧ c < 32 := by decide +kernel
  intro n h1 hn
  exact key ⟨n, by omega⟩ h1
/-- A list of small numbers that is not empty. -/
structure Few5 (X : List Nat) : Prop where
  pos : 0 < X.length
  len : X.length ≤ 5
  at_ : ∀ i, i < X.length → 0 < X.getD i 0 ∧ X.getD i 0 < 32
theorem cls_few {n : Nat} (h1 : 1 ≤ n) (hn : n ≤ 5) {a : Nat → Nat} (h : Wf n a) : Few5 (cls a n) := by
  obtain ⟨l, k1, k2, _⟩ := by_pls hn h
  obtain ⟨⟨e1, e2⟩, e3⟩ := bnd_all n h1 hn l k1
  rw [k2]
  refine ⟨by omega, e2, fun i hi => e3 _ ?_⟩
  rw [List.getD_eq_getElem?_getD, List.getElem?_eq_getElem hi]
  exact List.getElem_mem hi
def sm (X : List Nat) (c : Nat) : Nat := (X.take c).foldl (· + ·) 0
def inn (x : Nat) (Y : List Nat) : List Nat := (Y.filter fun d => x &&& d != 0).map fun d => x &&& d
def wp (X Y : List Nat) (c : Nat) : List Nat := wantL (X.take c) Y
theorem take_getD {X : List Nat} {c : Nat} (h : c < X.length) : X.take (c + 1) = X.take c ++ [X.getD c 0] := by
  rw [List.take_succ_eq_append_getElem h, List.getD_eq_getElem?_getD, List.getElem?_eq_getElem h]
  rfl
theorem sm_succ {X : List Nat} {c : Nat} (h : c < X.length) : sm X (c + 1) = sm X c + X.getD c 0 := by
  unfold sm
  rw [take_getD h, List.foldl_append]
  rfl
theorem sm_all (X : List Nat) : sm X X.length = X.foldl (· + ·) 0 := by unfold sm; rw [List.take_length]
theorem sm_le {X : List Nat} (h : Few5 X) : ∀ c, c ≤ X.length → sm X c ≤ 32 * c
  | 0, _ => by simp [sm]
  | c + 1, hc => by
    rw [sm_succ (by omega)]
    have := sm_le h c (by omega)
    have := (h.at_ c (by omega)).2
    omega
theorem wp_succ {X Y : List Nat} {c : Nat} (h : c < X.length) : wp X Y (c + 1) = wp X Y c ++ inn (X.getD c 0) (Y.take Y.length) := by
  unfold wp wantL
  rw [take_getD h, List.flatMap_append, List.take_length]
  congr 1
  simp [inn]
theorem inn_succ {x : Nat} {Y : List Nat} {d : Nat} (h : d < Y.length) : inn x (Y.take (d + 1)) = inn x (Y.take d) ++ (if x &&& Y.getD d 0 = 0 then [] else [x &&& Y.getD d 0]) := by
  unfold inn
  rw [take_getD h, List.filter_append, List.map_append]
  congr 1
  by_cases e : x &&& Y.getD d 0 = 0
  · rw [if_pos e, List.filter_cons]
    simp only [e]
    rfl
  · rw [if_neg e, List.filter_cons]
    have : (x &&& Y.getD d 0 != 0) = true := by simpa using e
    rw [if_pos this]
    rfl
theorem inn_len (x : Nat) (Y : List Nat) : (inn x Y).length ≤ Y.length := by
  unfold inn
  rw [List.length_map]
  exact List.length_filter_le _ _
theorem wp_len {X Y : List Nat} (h : Y.length ≤ 5) : ∀ c, c ≤ X.length → (wp X Y c).length ≤ 5 * c
  | 0, _ => by simp [wp, wantL]
  | c + 1, hc => by
    have h1 := wp_succ (X := X) (Y := Y) (c := c) (by omega)
    have h2 := wp_len (X := X) h c (by omega)
    have h3 := inn_len (X.getD c 0) (Y.take Y.length)
    rw [List.take_length] at h3
    rw [h1, List.length_append, List.take_length]
    omega
/-- Numbers that lie in memory. -/
def zl (X : List Nat) : Nat → Int := fun i => ((X.getD i 0 : Nat) : Int)
theorem zl_nints (X : List Nat) (i : Nat) : (nints X).getD i 0 = zl X i := by
  unfold nints zl
  rw [List.getD_eq_getElem?_getD, List.getD_eq_getElem?_getD, List.getElem?_map]
  cases X[i]? <;> rfl
theorem row_lb {w : World} {R : Nat} {v : Value} {X : List Nat} (h : Row w R v (nints X)) (hp : 0 < X.length) : ∃ g cap, v = .slice (some ⟨g, 0, none⟩) X.length cap ∧ R ≤ g ∧ g < w.heap.size ∧ Lb (g + 1) w (some ⟨g, 0, none⟩) X.length (zl X) := by
  rcases h.cases with ⟨_, h0⟩ | ⟨g, cap, hv, hR, hg, hc⟩
  · have : (nints X).length = 0 := by rw [h0]; rfl
    rw [nints_len] at this
    omega
  · refine ⟨g, cap, by rw [hv, nints_len], hR, hg, fun _ => ⟨g, 0, rfl, by omega, fun i hi => ?_⟩⟩
    rw [Nat.zero_add, hc i (by rw [nints_len]; exact hi), ← zl_nints, List.getD_eq_getElem?_getD, List.getElem?_eq_getElem (by rw [nints_len]; exact hi)]
    rfl
theorem Lb.kept {B pb B' : Nat} {w W : World} {o : Option Addr} {n : Nat} {f : Nat → Int} (h : Lb B w o n f) (hk : Kept (some pb) B' w W) (h1 : B ≤ pb) (h2 : B ≤ B') : Lb B W o n f := fun hn => by
  obtain ⟨b, off, e, hl, hc⟩ := h hn
  exact ⟨b, off, e, hl, fun i hi => (World.cell?_of_block (w := w) (a := ⟨b, off + i, none⟩) (hk.block b (by omega) (by rintro e; injection e with e; omega))).trans (hc i hi)⟩
/-- A row is sorted in place. -/
theorem sort_at (l m : List Int) (h1 : 1 ≤ l.length) (hlen : m.length = l.length) (hll : l.length ≤ 1000000) (hsort : l.mergeSort (fun x y => decide (x ≤ y)) = m) (B : Nat) (v : Value) (W : World) (h : Row W B v l) :
    ∃ g cap, v = .slice (some ⟨g, 0, none⟩) l.length cap ∧ B ≤ g ∧ g < W.heap.size ∧ Calls Try.prog 10 #[v] W fun e w' => e = .returned (.tuple #[]) ∧ Kept (some g) W.heap.size W w' ∧ Row w' B v m := by
  rcases h.2 with ⟨_, h0⟩ | ⟨g, cap, cur, rfl, hB, hb, hn, hm, hs, ht⟩
  · omega
  · refine ⟨g, cap, rfl, hB, (Array.getElem?_eq_some_iff.1 hb).1, ?_⟩
    have ht2 : cur.toList.take l.length = l.map (Value.int .i64) := by rw [Nat.mul_one] at ht; exact ht
    have hr := Try.slices_Sort_int g 0 cap l W (holds_of_blockI hb ht2) (Array.getElem?_eq_some_iff.1 hb).1 (by omega)
    rw [hsort] at hr
    refine hr.mono ?_
    rintro e w' ⟨rfl, q, os, rfl⟩
    have hg := grownBy_sortedI (w := W) (g := g) (n := q) (os := os) m.toArray
    refine ⟨rfl, ⟨hg.os, hg.tape, hg.output, hg.size, fun k hk hne => hg.block k hk hne⟩, ?_⟩
    have h2 := ownsRow_sortedI (n := q) (os := os) (ss := l) (ts := m) hlen hB hb hn hm hs
    unfold Row
    rw [hlen]
    rw [← hlen]
    rw [← hlen] at h2
    exact h2
theorem nat_zf (m : Nat → Nat) : nat (zf m) = m := by
  funext i
  unfold nat zf
  exact Int.toNat_natCast _
theorem good_zf {n : Nat} {m : Nat → Nat} (hn : n ≤ 65536) (h : Wf n m) : Good n (zf m) := ⟨hn, fun i _ => by unfold zf; omega, by rw [nat_zf]; exact h⟩
theorem meet_c (n : Nat) (f g : Nat → Int) (hf : Good n f) (hg : Good n g) (o p : Option Addr) (cap cap' : Nat) (w : World) (hL : Lz w o n f) (hL' : Lz w p n g) : Calls Try.prog 8 #[.slice o n cap, .slice p n cap'] w fun e w' => ∃ m q c, e = .returned (.tuple #[.slice q n c, .int .i64 0]) ∧ Good n m ∧ IsMeet n (nat f) (nat g) (nat m) ∧ Lz w' q n m ∧ Below w.heap.size w w' := by
  refine (meet_good n f g hf hg o p cap cap' w hL hL').mono ?_
  rintro e w' ⟨q, c, rfl, h1, h2⟩
  refine ⟨meetf f g, q, c, rfl, good_zf hf.1 (lab_wf _ n), ?_, h1, h2⟩
  have e : nat (meetf f g) = lab (fun j => (f j, g j)) := nat_zf _
  rw [e]
  refine ⟨lab_wf _ n, fun i j hi hj => ?_⟩
  rw [lab_eq, Prod.mk.injEq]
  have a1 := hf.2.1 i hi
  have a2 := hf.2.1 j hj
  have a3 := hg.2.1 i hi
  have a4 := hg.2.1 j hj
  unfold nat
  exact ⟨fun h => ⟨by omega, by omega⟩, fun h => ⟨by omega, by omega⟩⟩
theorem join_c (n : Nat) (f g : Nat → Int) (hf : Good n f) (hg : Good n g) (o p : Option Addr) (cap cap' : Nat) (w : World) (hL : Lz w o n f) (hL' : Lz w p n g) : Calls Try.prog 9 #[.slice o n cap, .slice p n cap'] w fun e w' => ∃ m q c, e = .returned (.tuple #[.slice q n c, .int .i64 0]) ∧ Good n m ∧ IsJoin n (nat f) (nat g) (nat m) ∧ Lz w' q n m ∧ Below w.heap.size w w' := by
  refine (join_good n f g hf hg o p cap cap' w hL hL').mono ?_
  rintro e w' ⟨m, hm, q, c, rfl, h1, h2⟩
  refine ⟨zf m, q, c, rfl, good_zf hf.1 hm.1, ?_, h1, h2⟩
  rw [nat_zf]
  exact hm

end Go.Proofs.Ytokjdlljhloflaa
