/- Rows of lists; all permutations, level by level, in plain numbers. -/
import Derived.Test.YtgppdbiimlbpjaaDoorRxC
import Derived.WalkKit
import Derived.WalkSpells
import Derived.WalkLawsBesides
import Derived.Handy
import Derived.Deep.QuietTactic
import Derived.BigQuiet
import Derived.Outline
import Derived.Laws.BitsAllLaws
import Derived.IntWalk
import Derived.Lib.SmallJoins
import Derived.Lib.Hide
import Derived.Deep.DeepCutAuto
import Derived.LoopTactic
import Derived.Deep.RegionWith
import Derived.Laws.CopyOwn
import Derived.Maps.OwnOps
import Derived.Maps.OwnSet
import Derived.Laws.OwnMore
import Derived.Maps.AppendAt
import Derived.Test.YtgppdbiimlbpjaaDoorShelF
import Derived.RangeFuncNested
import Derived.RangeFuncBound
import Derived.RangeFuncCalls
import Derived.RangeFuncLeaves
import Derived.RangeFuncBox
import Derived.RangeFuncFrom
import Derived.Shelf.Abstract
import Derived.Shelf.RegionOpen
import Derived.OwnWalkIn
import Derived.TacticsInMore
import Derived.LoopNIn
import Derived.LoopIn
namespace Go.Proofs.YtgppdbiimlbpjaaDoor
set_option linter.unusedVariables false
set_option linter.unusedSimpArgs false
open Go.RowKit


/-! ### in plain numbers -/
/-- All lists of i different numbers below n. -/
def lev (n : Nat) : Nat → List (List Nat)
  | 0 => [[]]
  | i + 1 => grow n (lev n i)
theorem lev_pl : ∀ n : Fin 6, lev n.val n.val = pl n.val := by decide +kernel
theorem lev_all : ∀ n : Fin 6, ∀ i : Fin 6, (lev n.val i.val).length ≤ 120 ∧ ∀ a ∈ lev n.val i.val, a.length = i.val ∧ ∀ x ∈ a, x < n.val := by decide +kernel
/-- The lists that go on from a by one more number below x. -/
def ext (a : List Nat) (x : Nat) : List (List Nat) := ((List.range x).filter fun y => !a.contains y).map fun y => a ++ [y]
theorem ext_zero (a : List Nat) : ext a 0 = [] := rfl
theorem ext_in {a : List Nat} {x : Nat} (h : a.contains x = true) : ext a (x + 1) = ext a x := by
  unfold ext
  rw [List.range_succ, List.filter_append, List.map_append]
  have hm : x ∈ a := by simpa using h
  simp [hm]
theorem ext_out {a : List Nat} {x : Nat} (h : a.contains x = false) : ext a (x + 1) = ext a x ++ [a ++ [x]] := by
  unfold ext
  rw [List.range_succ, List.filter_append, List.map_append]
  have hm : x ∉ a := by simpa using h
  simp [hm]
theorem ext_len (a : List Nat) (x : Nat) : (ext a x).length ≤ x := by
  unfold ext
  rw [List.length_map]
  exact Nat.le_trans (List.length_filter_le _ _) (by simp)
/-- What the first c lists of L give. -/
def part (n : Nat) (L : List (List Nat)) (c : Nat) : List (List Nat) := (L.take c).flatMap fun a => ext a n
theorem part_zero (n : Nat) (L : List (List Nat)) : part n L 0 = [] := rfl
theorem part_step {n c : Nat} {L : List (List Nat)} (h : c < L.length) : part n L (c + 1) = part n L c ++ ext (L.getD c []) n := by
  unfold part
  rw [List.take_succ_eq_append_getElem h, List.flatMap_append, List.getD_eq_getElem?_getD, List.getElem?_eq_getElem h]
  simp
theorem part_all {n : Nat} {L : List (List Nat)} : part n L L.length = grow n L := by
  unfold part grow ext
  rw [List.take_length]
theorem part_len (n : Nat) (L : List (List Nat)) : ∀ c, (part n L c).length ≤ c * n
  | 0 => by simp [part]
  | c + 1 => by
    by_cases h : c < L.length
    · rw [part_step h, List.length_append]
      have h1 := part_len n L c
      have h2 := ext_len (L.getD c []) n
      rw [Nat.add_mul]
      omega
    · have h1 := part_len n L c
      have e : part n L (c + 1) = part n L c := by
        unfold part
        rw [List.take_of_length_le (by omega), List.take_of_length_le (by omega)]
      rw [e, Nat.add_mul]
      omega
/-- The permutations that begin with a, where m numbers are still to come. -/
def fur (n : Nat) : Nat → List Nat → List (List Nat)
  | 0, a => [a]
  | m + 1, a => (List.range n).flatMap fun p => if a.contains p then [] else fur n m (a ++ [p])
/-- .. those that go on by a number below p. -/
def furp (n m : Nat) (a : List Nat) (p : Nat) : List (List Nat) := (List.range p).flatMap fun p => if a.contains p then [] else fur n m (a ++ [p])
theorem furp_zero (n m : Nat) (a : List Nat) : furp n m a 0 = [] := rfl
theorem furp_all (n m : Nat) (a : List Nat) : furp n m a n = fur n (m + 1) a := rfl
theorem furp_in {n m p : Nat} {a : List Nat} (h : a.contains p = true) : furp n m a (p + 1) = furp n m a p := by
  unfold furp
  rw [List.range_succ, List.flatMap_append]
  have hm : p ∈ a := by simpa using h
  simp [hm]
theorem furp_out {n m p : Nat} {a : List Nat} (h : a.contains p = false) : furp n m a (p + 1) = furp n m a p ++ fur n m (a ++ [p]) := by
  unfold furp
  rw [List.range_succ, List.flatMap_append]
  have hm : p ∉ a := by simpa using h
  simp [hm]
theorem fur_all : ∀ n : Fin 6, fur n.val n.val [] = pl n.val := by decide +kernel
theorem fur_len : ∀ n : Fin 6, ∀ i : Fin 6, i.val ≤ n.val → ∀ a ∈ lev n.val i.val, 0 < (fur n.val (n.val - i.val) a).length ∧ (fur n.val (n.val - i.val) a).length ≤ 120 := by decide +kernel
theorem furp_len (n m : Nat) (a : List Nat) (h : ∀ p, p < n → a.contains p = false → (fur n m (a ++ [p])).length ≤ 120) : ∀ p, p ≤ n → (furp n m a p).length ≤ p * 120
  | 0, _ => by simp [furp]
  | p + 1, hp => by
    have ih := furp_len n m a h p (by omega)
    cases e : a.contains p with
    | true => rw [furp_in e]; omega
    | false =>
      rw [furp_out e, List.length_append]
      have := h p (by omega) e
      omega
theorem lev_next {n i p : Nat} {a : List Nat} (ha : a ∈ lev n i) (hp : p < n) (h : a.contains p = false) : a ++ [p] ∈ lev n (i + 1) := by
  show a ++ [p] ∈ grow n (lev n i)
  unfold grow
  rw [List.mem_flatMap]
  refine ⟨a, ha, List.mem_map.2 ⟨p, List.mem_filter.2 ⟨List.mem_range.2 hp, by rw [h]; rfl⟩, rfl⟩⟩
theorem contains_at {a : List Nat} {x : Nat} : a.contains x = true ↔ ∃ l, l < a.length ∧ zf (fun_ a) l = (x : Int) := by
  rw [List.contains_iff_mem, List.mem_iff_getElem]
  constructor
  · rintro ⟨l, hl, e⟩
    refine ⟨l, hl, ?_⟩
    unfold zf fun_
    rw [List.getD_eq_getElem?_getD, List.getElem?_eq_getElem hl, Option.getD_some, e]
  · rintro ⟨l, hl, e⟩
    refine ⟨l, hl, ?_⟩
    unfold zf fun_ at e
    rw [List.getD_eq_getElem?_getD, List.getElem?_eq_getElem hl, Option.getD_some] at e
    omega
theorem contains_atF {a : List Nat} {x : Nat} (h : a.contains x = false) : ¬ ∃ l, l < a.length ∧ zf (fun_ a) l = (x : Int) := fun h2 => by
  rw [contains_at.2 h2] at h
  cases h
theorem hasb_contains (a : List Nat) (x : Nat) : hasb a.length (zf (fun_ a)) (x : Int) = a.contains x := by
  rw [Bool.eq_iff_iff, contains_at]
  unfold hasb
  rw [decide_eq_true_iff]
/-- The cells of a list and one more. -/
theorem lsf_grow (a : List Nat) (x : Nat) : lsf a.length (zf (fun_ a)) ++ [(x : Int)] = (a ++ [x]).map (fun y : Nat => (y : Int)) := by
  rw [List.map_append]
  congr 1
  unfold lsf
  apply List.ext_getElem
  · simp
  · intro i h1 h2
    have hi : i < a.length := by simpa using h2
    simp only [List.getElem_map, List.getElem_range]
    unfold zf fun_
    rw [List.getD_eq_getElem?_getD, List.getElem?_eq_getElem hi]
    rfl

/-! ### rows of lists -/
/-- One list of n numbers, not nil. -/
def One1 (w : World) (u : Value) (n : Nat) (l : List Nat) : Prop := ∃ g off cap, u = .slice (some ⟨g, off, none⟩) n cap ∧ g < w.heap.size ∧ n ≤ cap ∧ ∀ i, i < n → w.cell? ⟨g, off + i, none⟩ = some (.int .i64 (zf (fun_ l) i))
theorem One1.keep {w w' : World} {u : Value} {n : Nat} {l : List Nat} (h : One1 w u n l) (hs : w.heap.size ≤ w'.heap.size) (hk : ∀ k, k < w.heap.size → (∀ off n cap, u = .slice (some ⟨k, off, none⟩) n cap → w'.heap[k]? = w.heap[k]?)) : One1 w' u n l := by
  obtain ⟨g, off, cap, e, h1, hcap, h2⟩ := h
  exact ⟨g, off, cap, e, by omega, hcap, fun i hi => (World.cell?_of_block (w := w) (a := ⟨g, off + i, none⟩) (hk g h1 _ _ _ e)).trans (h2 i hi)⟩
theorem One1.below {w w' : World} {u : Value} {n : Nat} {l : List Nat} (h : One1 w u n l) (hb : Below w.heap.size w w') : One1 w' u n l := h.keep hb.size fun k hk _ _ _ _ => hb.block k hk
/-- A row of lists, in a block of its own. -/
structure Grq (w : World) (R n : Nat) (v : Value) (vs : List Value) (G : List (List Nat)) : Prop where
  own : w.ownsRow R 22 1 v G.length vs
  rows : ∀ c, c < G.length → ∃ u, vs[c]? = some u ∧ One1 w u n (G.getD c []) ∧ ∀ g off m cap, u = .slice (some ⟨g, off, none⟩) m cap → v.ownBlock ≠ some g
theorem Grq.nil (w : World) (R n : Nat) : Grq w R n (.slice none 0 0) [] [] := ⟨World.ownsRow_nil _ _ _ _, fun c hc => absurd hc (Nat.not_lt_zero _)⟩
theorem Grq.below {w w' : World} {R n : Nat} {v : Value} {vs : List Value} {G : List (List Nat)} (h : Grq w R n v vs G) (hb : Below w.heap.size w w') : Grq w' R n v vs G :=
  ⟨own_keep h.own fun j _ hj => hb.block j hj, fun c hc => by
    obtain ⟨u, h1, h2, h3⟩ := h.rows c hc
    exact ⟨u, h1, h2.below hb, h3⟩⟩
theorem Grq.app {w w' : World} {R n : Nat} {v v' : Value} {vs us : List Value} {G H : List (List Nat)} (h : Grq w R n v vs G) (hr : ∀ c, c < H.length → ∃ u, us[c]? = some u ∧ One1 w u n (H.getD c []) ∧ ∀ g off m cap, u = .slice (some ⟨g, off, none⟩) m cap → v.ownBlock ≠ some g)
    (hown : w'.ownsRow R 22 1 v' (G.length + H.length) (vs ++ us)) (hgr : w.grownBy w' v.ownBlock) (hat : v'.ownBlock = v.ownBlock ∨ v'.ownBlock = some w.heap.size) : Grq w' R n v' (vs ++ us) (G ++ H) := by
  have hlen : vs.length = G.length := by have := h.own.1; omega
  have turn : ∀ u l, One1 w u n l → (∀ g off m cap, u = .slice (some ⟨g, off, none⟩) m cap → v.ownBlock ≠ some g) → One1 w' u n l ∧ ∀ g off m cap, u = .slice (some ⟨g, off, none⟩) m cap → v'.ownBlock ≠ some g := by
    intro u l hu hne
    refine ⟨hu.keep hgr.size fun k hk off n cap e => hgr.block k hk fun e2 => hne k off n cap e e2.symm, fun g off m cap e => ?_⟩
    rcases hat with e2 | e2
    · rw [e2]; exact hne g off m cap e
    · rw [e2]
      intro e3
      obtain ⟨g', off', cap', e4, h4, _⟩ := hu
      rw [e4] at e
      cases e
      have := Option.some.inj e3
      omega
  refine ⟨by rw [List.length_append]; exact hown, fun c hc => ?_⟩
  rw [List.length_append] at hc
  by_cases hl : c < G.length
  · obtain ⟨u, h1, h2, h3⟩ := h.rows c hl
    have e : (G ++ H).getD c [] = G.getD c [] := by rw [List.getD_eq_getElem?_getD, List.getD_eq_getElem?_getD, List.getElem?_append_left hl]
    rw [e]
    obtain ⟨t1, t2⟩ := turn u _ h2 h3
    exact ⟨u, by rw [List.getElem?_append_left (by omega)]; exact h1, t1, t2⟩
  · obtain ⟨u, h1, h2, h3⟩ := hr (c - G.length) (by omega)
    have e : (G ++ H).getD c [] = H.getD (c - G.length) [] := by rw [List.getD_eq_getElem?_getD, List.getD_eq_getElem?_getD, List.getElem?_append_right (by omega)]
    rw [e]
    obtain ⟨t1, t2⟩ := turn u _ h2 h3
    exact ⟨u, by rw [List.getElem?_append_right (by omega), hlen]; exact h1, t1, t2⟩
/-- A slice of lists, none of them nil. -/
def Lr (w : World) (o : Option Addr) (n : Nat) (H : List (List Nat)) : Prop := 0 < H.length → ∃ b off, o = some ⟨b, off, none⟩ ∧ b < w.heap.size ∧ ∀ c, c < H.length → ∃ u, w.cell? ⟨b, off + c, none⟩ = some u ∧ One1 w u n (H.getD c [])
theorem Lr.below {w w' : World} {o : Option Addr} {n : Nat} {H : List (List Nat)} (h : Lr w o n H) (hb : Below w.heap.size w w') : Lr w' o n H := fun hn => by
  obtain ⟨b, off, e, h1, h2⟩ := h hn
  refine ⟨b, off, e, Nat.lt_of_lt_of_le h1 hb.size, fun c hc => ?_⟩
  obtain ⟨u, h3, h4⟩ := h2 c hc
  exact ⟨u, (hb.cell (p := ⟨b, off + c, none⟩) h1).trans h3, h4.below hb⟩
theorem Grq.lr {w : World} {R n : Nat} {v : Value} {vs : List Value} {G : List (List Nat)} (h : Grq w R n v vs G) : ∃ o cap, v = .slice o G.length cap ∧ Lr w o n G := by
  rcases own_cases h.own with ⟨e, h0⟩ | ⟨b, cap, e, hR, hb, hcl⟩
  · exact ⟨none, 0, by rw [h0]; exact e, fun hn => by omega⟩
  · refine ⟨_, cap, e, fun _ => ⟨b, 0, rfl, hb, fun c hc => ?_⟩⟩
    obtain ⟨u, h1, h2, _⟩ := h.rows c hc
    exact ⟨u, by rw [Nat.zero_add]; exact hcl c u h1, h2⟩
theorem Lr.lp {w : World} {o : Option Addr} {n : Nat} {H : List (List Nat)} (h : Lr w o n H) : Lp w o H.length n H := ⟨rfl, fun hn => by
  obtain ⟨b, off, e, h1, h2⟩ := h hn
  refine ⟨b, off, e, h1, fun c hc => ?_⟩
  obtain ⟨u, h3, g, og, cap, rfl, h4, hcap, h5⟩ := h2 c hc
  exact ⟨_, cap, h3, fun _ => ⟨g, og, rfl, h4, h5⟩⟩⟩
theorem own_block_lt {w : World} {R n : Nat} {v : Value} {vs : List Value} {G : List (List Nat)} (h : Grq w R n v vs G) : ∀ k, v.ownBlock = some k → R ≤ k ∧ k < w.heap.size := h.own.lt
/-- A row of a list and one more number. -/
theorem row_one {w : World} {R g i cap : Nat} {a : List Nat} {x : Nat} (hal : a.length = i) (h : Row w R (.slice (some ⟨g, 0, none⟩) (i + 1) cap) (lsf i (zf (fun_ a)) ++ [(x : Int)])) : One1 w (.slice (some ⟨g, 0, none⟩) (i + 1) cap) (i + 1) (a ++ [x]) := by
  have hle : (lsf i (zf (fun_ a)) ++ [(x : Int)]).length = i + 1 := by simp [lsf]
  obtain ⟨o, c, e, hz, hcap⟩ := h.shapeQ
  rw [hle] at e hcap
  cases e
  have hlt : g < w.heap.size := (h.ownLt g rfl).2
  refine ⟨g, 0, cap, rfl, hlt, hcap, fun j hj => ?_⟩
  rw [Nat.zero_add]
  refine h.cellAt ?_
  have h2 : lsf i (zf (fun_ a)) ++ [(x : Int)] = (a ++ [x]).map (fun y : Nat => (y : Int)) := by rw [← hal]; exact lsf_grow a x
  have hj2 : j < (a ++ [x]).length := by simp; omega
  rw [h2, List.getElem?_map, List.getElem?_eq_getElem hj2]
  unfold zf fun_
  rw [List.getD_eq_getElem?_getD, List.getElem?_eq_getElem hj2]
  rfl

end Go.Proofs.YtgppdbiimlbpjaaDoor
