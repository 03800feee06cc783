/- The group that permutations generate: in plain numbers; as a row of slices. -/
import Derived.Test.YtgppdbiimlbpjaaDoorRwI
import Derived.WalkKit
import Derived.WalkSpells
import Derived.WalkLawsBesides
import Derived.Handy
import Derived.Deep.QuietTactic
import Derived.BigQuiet
import Derived.Outline
import Derived.Laws.BitsAllLaws
import Derived.IntWalk
import Derived.Lib.SmallJoins
import Derived.Lib.Hide
import Derived.Deep.DeepCutAuto
import Derived.LoopTactic
import Derived.Deep.RegionWith
import Derived.Laws.CopyOwn
import Derived.Maps.OwnOps
import Derived.Maps.OwnSet
import Derived.Laws.OwnMore
import Derived.Maps.AppendAt
namespace Go.Proofs.YtgppdbiimlbpjaaDoor
set_option linter.unusedVariables false
set_option linter.unusedSimpArgs false
open Go.RowKit

/-! ### in plain numbers -/
theorem pl_all : ∀ n : Fin 6, ∀ l ∈ pl n.val, l.length = n.val ∧ (∀ i, i < n.val → l.getD i 0 < n.val) ∧ l.Nodup := by decide +kernel
theorem pl_nodup : ∀ n : Fin 6, (pl n.val).Nodup ∧ (pl n.val).length ≤ 120 := by decide +kernel
theorem pl_good {n : Nat} (h1 : 1 ≤ n) (h5 : n ≤ 5) {l : List Nat} (h : l ∈ pl n) : l.length = n ∧ Good n (fun_ l) := by
  obtain ⟨hl, hlt, hnd⟩ := pl_all ⟨n, by omega⟩ l h
  change l.length = n at hl
  refine ⟨hl, h1, h5, hlt, fun p q hp hq e => ?_⟩
  unfold fun_ at e
  rw [List.getD_eq_getElem?_getD, List.getD_eq_getElem?_getD, List.getElem?_eq_getElem (by omega), List.getElem?_eq_getElem (by omega), Option.getD_some, Option.getD_some] at e
  have key := List.pairwise_iff_getElem.1 hnd
  rcases Nat.lt_trichotomy p q with hpq | hpq | hpq
  · exact absurd e (key p q (by omega) (by omega) hpq)
  · exact hpq
  · exact absurd e.symm (key q p (by omega) (by omega) hpq)
theorem pl_small {n : Nat} (h1 : 1 ≤ n) (h5 : n ≤ 5) {l : List Nat} (h : l ∈ pl n) : Small l := by
  obtain ⟨hl, hg⟩ := pl_good h1 h5 h
  intro i
  by_cases hi : i < n
  · have := hg.perm.lt i hi; omega
  · unfold fun_
    rw [List.getD_eq_getElem?_getD, List.getElem?_eq_none (by omega)]
    show 0 < 5
    omega
/-- First m, then l. -/
def cmp2 (l m : List Nat) : List Nat := m.map (fun_ l)
theorem cmp2_at {l m : List Nat} {i : Nat} (h : i < m.length) : fun_ (cmp2 l m) i = fun_ l (fun_ m i) := by
  unfold cmp2
  show (m.map (fun_ l)).getD i 0 = fun_ l (m.getD i 0)
  rw [List.getD_eq_getElem?_getD, List.getD_eq_getElem?_getD, List.getElem?_map, List.getElem?_eq_getElem h]
  rfl
theorem cmp2_mem {n : Nat} (h1 : 1 ≤ n) (h5 : n ≤ 5) {l m : List Nat} (hl : l ∈ pl n) (hm : m ∈ pl n) : cmp2 l m ∈ pl n := by
  obtain ⟨e1, g1⟩ := pl_good h1 h5 hl
  obtain ⟨e2, g2⟩ := pl_good h1 h5 hm
  have hg : Good n (fun i => fun_ l (fun_ m i)) := ⟨h1, h5, fun p hp => g1.perm.lt _ (g2.perm.lt p hp), fun p q hp hq e => g2.perm.inj p q hp hq (g1.perm.inj _ _ (g2.perm.lt p hp) (g2.perm.lt q hq) e)⟩
  have e : lo n (fun i => fun_ l (fun_ m i)) = cmp2 l m := by
    apply List.ext_getElem
    · simp [lo, cmp2, e2]
    · intro i hi hi'
      have hin : i < m.length := by simpa [cmp2] using hi'
      simp only [lo, cmp2, List.getElem_map, List.getElem_range]
      unfold fun_
      rw [List.getD_eq_getElem?_getD (l := m), List.getElem?_eq_getElem hin]
      rfl
  exact e ▸ lo_mem hg
def gstep (b : List Nat) (G : List (List Nat)) : List (List Nat) := if b ∈ G then G else G ++ [b]
/-- The inner loop over the first k generators. -/
def gin (S : Nat → List Nat) (x : List Nat) (G : List (List Nat)) : Nat → List (List Nat)
  | 0 => G
  | k + 1 => gstep (cmp2 (S k) x) (gin S x G k)
/-- The outer loop from place i on. -/
def gl (S : Nat → List Nat) (K : Nat) : Nat → Nat → List (List Nat) → List (List Nat)
  | 0, _, G => G
  | f + 1, i, G => if i < G.length then gl S K f (i + 1) (gin S (G.getD i []) G K) else G
/-- Different permutations of n processes. -/
structure Gs (n : Nat) (G : List (List Nat)) : Prop where
  nodup : G.Nodup
  mem : ∀ l ∈ G, l ∈ pl n
theorem Gs.len {n : Nat} (h5 : n ≤ 5) {G : List (List Nat)} (h : Gs n G) : G.length ≤ 120 := by
  have h1 := pl_nodup ⟨n, by omega⟩
  exact Nat.le_trans (h.nodup.length_le_of_subset fun l hl => h.mem l hl) h1.2
theorem Gs.step {n : Nat} {G : List (List Nat)} (h : Gs n G) {b : List Nat} (hb : b ∈ pl n) : Gs n (gstep b G) := by
  unfold gstep
  by_cases e : b ∈ G
  · rw [if_pos e]; exact h
  · rw [if_neg e]
    refine ⟨?_, fun l hl => ?_⟩
    · rw [List.nodup_append]
      exact ⟨h.nodup, by simp, fun x hx y hy e2 => by simp at hy; subst hy; subst e2; exact e hx⟩
    · rcases List.mem_append.1 hl with h2 | h2
      · exact h.mem l h2
      · simp at h2; subst h2; exact hb
theorem Gs.gin {n : Nat} (h1 : 1 ≤ n) (h5 : n ≤ 5) {S : Nat → List Nat} {K : Nat} (hS : ∀ k, k < K → S k ∈ pl n) {x : List Nat} (hx : x ∈ pl n) {G : List (List Nat)} (h : Gs n G) : ∀ k, k ≤ K → Gs n (gin S x G k)
  | 0, _ => h
  | k + 1, hk => (Gs.gin h1 h5 hS hx h k (by omega)).step (cmp2_mem h1 h5 (hS k hk) hx)
theorem Gs.at_ {n : Nat} {G : List (List Nat)} (h : Gs n G) {i : Nat} (hi : i < G.length) : G.getD i [] ∈ pl n := by
  rw [List.getD_eq_getElem?_getD, List.getElem?_eq_getElem hi]
  exact h.mem _ (List.getElem_mem hi)

/-! ### the group's row -/
structure Grp (w : World) (R M n : Nat) (v : Value) (vs : List Value) (G : List (List Nat)) : Prop where
  own : w.ownsRow R 22 1 v G.length vs
  ne : v.ownBlock ≠ some M
  rows : ∀ c, c < G.length → ∃ g off cap, vs[c]? = some (.slice (some ⟨g, off, none⟩) n cap) ∧ g < w.heap.size ∧ (∀ i, i < n → w.cell? ⟨g, off + i, none⟩ = some (.int .i64 (zf (fun_ (G.getD c [])) i))) ∧ g ≠ M ∧ v.ownBlock ≠ some g
  caps : ∀ u, u ∈ vs → ∃ o m cap, u = .slice o m cap ∧ m ≤ cap
theorem Grp.turn {w w' : World} {R M n : Nat} {v : Value} {vs : List Value} {G : List (List Nat)} (h : Grp w R M n v vs G) (hs : w.heap.size ≤ w'.heap.size) (hk : ∀ k, k < w.heap.size → k ≠ M → w'.heap[k]? = w.heap[k]?) : Grp w' R M n v vs G := by
  refine ⟨?_, h.ne, fun c hc => ?_, h.caps⟩
  · refine ⟨h.own.1, ?_⟩
    rcases h.own.2 with h0 | ⟨g, cap, cur, h1, h2, h3, h4⟩
    · exact .inl h0
    · refine .inr ⟨g, cap, cur, h1, h2, (hk g (Array.getElem?_eq_some_iff.1 h3).1 (fun e => h.ne (by rw [h1, e]; rfl))).trans h3, h4⟩
  · obtain ⟨g, off, cap, h1, h2, h3, h4, h5⟩ := h.rows c hc
    exact ⟨g, off, cap, h1, Nat.lt_of_lt_of_le h2 hs, fun i hi => (World.cell?_of_block (w := w) (a := ⟨g, off + i, none⟩) (hk g h2 h4)).trans (h3 i hi), h4, h5⟩
theorem Grp.below {w w' : World} {R M n : Nat} {v : Value} {vs : List Value} {G : List (List Nat)} (h : Grp w R M n v vs G) (hb : Below w.heap.size w w') : Grp w' R M n v vs G := h.turn hb.size fun k hk _ => hb.block k hk
theorem Grp.map {w w' : World} {R M n : Nat} {v : Value} {vs : List Value} {G : List (List Nat)} (h : Grp w R M n v vs G) (hg : w.grownBy w' (some M)) : Grp w' R M n v vs G := h.turn hg.size fun k hk hn => hg.block k hk (fun e => hn (Option.some.inj e))
theorem Grp.step {w w' : World} {R M n g off cap : Nat} {v v' : Value} {vs : List Value} {G : List (List Nat)} {l : List Nat} (h : Grp w R M n v vs G) (hM : M < w.heap.size) (hg : g < w.heap.size) (hc : ∀ i, i < n → w.cell? ⟨g, off + i, none⟩ = some (.int .i64 (zf (fun_ l) i))) (hgM : g ≠ M) (hgv : v.ownBlock ≠ some g)
    (hown : w'.ownsRow R 22 1 v' (G.length + 1) (vs ++ [.slice (some ⟨g, off, none⟩) n cap])) (hgr : w.grownBy w' v.ownBlock) (hat : v'.ownBlock = v.ownBlock ∨ v'.ownBlock = some w.heap.size) (hcap : n ≤ cap) : Grp w' R M n v' (vs ++ [.slice (some ⟨g, off, none⟩) n cap]) (G ++ [l]) := by
  have hlen : vs.length = G.length := by have := h.own.1; omega
  have fresh : ∀ k, k < w.heap.size → v.ownBlock ≠ some k → v'.ownBlock ≠ some k := fun k hk hv => by
    rcases hat with e | e
    · rw [e]; exact hv
    · rw [e]; intro e2; have := Option.some.inj e2; omega
  refine ⟨by rw [List.length_append, List.length_singleton]; exact hown, fresh M hM h.ne, fun c hc' => ?_, fun u hu => by
    rcases List.mem_append.1 hu with h2 | h2
    · exact h.caps u h2
    · rw [List.mem_singleton] at h2
      exact ⟨_, _, _, h2, hcap⟩⟩
  rw [List.length_append, List.length_singleton] at hc'
  by_cases e : c = G.length
  · subst e
    refine ⟨g, off, cap, by rw [List.getElem?_append_right (by omega), hlen]; simp, Nat.lt_of_lt_of_le hg hgr.size, fun i hi => ?_, hgM, fresh g hg hgv⟩
    rw [World.cell?_of_block (w := w) (a := ⟨g, off + i, none⟩) (hgr.block g hg (fun e => hgv e.symm)), hc i hi]
    rw [List.getD_eq_getElem?_getD, List.getElem?_append_right (by omega)]
    simp
  · obtain ⟨g2, off2, cap2, h1, h2, h3, h4, h5⟩ := h.rows c (by omega)
    refine ⟨g2, off2, cap2, by rw [List.getElem?_append_left (by omega)]; exact h1, Nat.lt_of_lt_of_le h2 hgr.size, fun i hi => ?_, h4, fresh g2 h2 h5⟩
    rw [World.cell?_of_block (w := w) (a := ⟨g2, off2 + i, none⟩) (hgr.block g2 h2 (fun e => h5 e.symm)), h3 i hi]
    rw [List.getD_eq_getElem?_getD, List.getD_eq_getElem?_getD, List.getElem?_append_left (by omega)]
/-- The slice of the group, and one of its elements. -/
theorem Grp.at_ {w : World} {R M n : Nat} {v : Value} {vs : List Value} {G : List (List Nat)} (h : Grp w R M n v vs G) {c : Nat} (hc : c < G.length) : ∃ b cap g off k, v = .slice (some ⟨b, 0, none⟩) G.length cap ∧ b < w.heap.size ∧ R ≤ b ∧ w.cell? ⟨b, c, none⟩ = some (.slice (some ⟨g, off, none⟩) n k) ∧ g < w.heap.size ∧ ∀ i, i < n → w.cell? ⟨g, off + i, none⟩ = some (.int .i64 (zf (fun_ (G.getD c [])) i)) := by
  obtain ⟨g, off, k, h1, h2, h3, _, _⟩ := h.rows c hc
  rcases own_cases h.own with ⟨_, h0⟩ | ⟨b, cap, e, hR, hb, hcl⟩
  · omega
  · exact ⟨b, cap, g, off, k, e, hb, hR, hcl c _ h1, h2, h3⟩
set_option maxHeartbeats 1000000 in
theorem after_new (n : Nat) (hn : n ≤ 5) (a b : Nat → Nat) (hb : ∀ i, i < n → b i < n) (o p : Option Addr) (cap cap' : Nat) (w : World) (hL : Lz w o n (zf a)) (hL' : Lz w p n (zf b)) : Calls Tryd.prog 50 #[.slice o n cap, .slice p n cap'] w fun e w' => e = .returned (.slice (some ⟨w.heap.size, 0, none⟩) n n) ∧ Box w' w.heap.size (vec n (zf fun i => a (b i))) 3 ∧ Below w.heap.size w w' := by
  have hmk := fun w => run_vec n (by omega) w
  have HL := Lib.hid hL
  have HL' := Lib.hid hL'
  have HB := Lib.hid hb
  clear hL hL' hb
  go_enter Tryd.func50, Tryd.ntmps50
  go_wp2_with fail
  go_loopw [13] (fun j wr => ∃ i : Nat, i ≤ n ∧ j = .int .i64 (i : Int) ∧ Box wr w.heap.size (vec n (beg (zf fun i => a (b i)) i)) 3 ∧ Below w.heap.size w wr) (fun j _ => n - (intOf j).toNat)
  case atStart => exact ⟨0, by omega, rfl, beg_zero _ n ▸ Box.new w _ _, (Below.refl _ _).alloc (Nat.le_refl _) _⟩
  case round =>
    clear hmk
    obtain ⟨i, hi, rfl, hbx, hbe⟩ := hrel
    have HBx := Lib.hid hbx
    have HBe := Lib.hid hbe
    clear hbx hbe
    by_cases hlt : i < n
    · obtain ⟨bl, ofs, rfl, hbl, hcl⟩ := HL.out (by omega)
      obtain ⟨bg, ofg, rfl, hbg, hcg⟩ := HL'.out (by omega)
      have hbi := HB.out i hlt
      have c1 := (HBe.out.cell (p := ⟨bg, ofg + i, none⟩) hbg).trans (hcg i hlt)
      have c2 := (HBe.out.cell (p := ⟨bl, ofs + b i, none⟩) hbl).trans (hcl (b i) hbi)
      have c3 := (HBx.out.cell i).trans (vec_get _ hlt)
      have c4 := HBx.out.open_ i
      have hst : vec n (updz (beg (zf fun i => a (b i)) i) i (zf (fun i => a (b i)) i)) = vec n (beg (zf fun i => a (b i)) (i + 1)) := beg_step _ n i
      unfold zf at c1 c2
      obtain ⟨x, hx⟩ : ∃ x, b i = x := ⟨_, rfl⟩
      rw [hx] at c1 c2 hbi
      obtain ⟨y, hy⟩ : ∃ y, a x = y := ⟨_, rfl⟩
      rw [hy] at c2
      have hz : zf (fun i => a (b i)) i = ((y : Nat) : Int) := by show ((a (b i) : Nat) : Int) = _; rw [hx, hy]
      rw [hz] at hst
      have HSt := Lib.hid hst
      have hi1 : (i : Int) < (n : Int) := by omega
      have hx1 : (x : Int) < (n : Int) := by omega
      clear hcl hcg hx hy hz hst
      go_wp2_with fail
      go_roundw
      case rel => exact ⟨i + 1, by omega, by go_num, HSt.out ▸ HBx.out.setv i _, HBe.out.setCell (by simp) _⟩
      case measure => simp [intOf]; omega
    · have e : i = n := by omega
      subst e
      go_wp2_with fail
      go_ret
      exact ⟨rfl, (beg_all ▸ HBx.out : Box wr w.heap.size (vec i _) 3), HBe.out⟩

end Go.Proofs.YtgppdbiimlbpjaaDoor
