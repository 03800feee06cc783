/- The group sorted: the lists of all permutations that it holds. -/
import Derived.Test.YtgppdbiimlbpjaaDoorRwJ
import Derived.WalkKit
import Derived.WalkSpells
import Derived.WalkLawsBesides
import Derived.Handy
import Derived.Deep.QuietTactic
import Derived.BigQuiet
import Derived.Outline
import Derived.Laws.BitsAllLaws
import Derived.IntWalk
import Derived.Lib.SmallJoins
import Derived.Lib.Hide
import Derived.Deep.DeepCutAuto
import Derived.LoopTactic
import Derived.Deep.RegionWith
import Derived.Laws.CopyOwn
import Derived.Maps.OwnOps
import Derived.Maps.OwnSet
import Derived.Laws.OwnMore
import Derived.Maps.AppendAt
import Derived.Test.YtgppdbiimlbpjaaDoorShelF
namespace Go.Proofs.YtgppdbiimlbpjaaDoor
set_option linter.unusedVariables false
set_option linter.unusedSimpArgs false
open Go.RowKit

/-! ### the order of lists as an order of numbers -/
def num (f : Nat → Nat) : Nat → Nat → Nat
  | 0, _ => 0
  | m + 1, i => f i * 5 ^ m + num f m (i + 1)
theorem num_lt {f : Nat → Nat} (h : ∀ i, f i < 5) : ∀ m i, num f m i < 5 ^ m
  | 0, _ => by show 0 < 1; omega
  | m + 1, i => by
    have h1 := num_lt h m (i + 1)
    have h2 := h i
    have h3 : f i * 5 ^ m ≤ 4 * 5 ^ m := Nat.mul_le_mul_right _ (by omega)
    show f i * 5 ^ m + num f m (i + 1) < 5 ^ (m + 1)
    rw [Nat.pow_succ]
    omega
theorem num_step {f g : Nat → Nat} (hf : ∀ i, f i < 5) (hg : ∀ i, g i < 5) (m i : Nat) (h : f i < g i) : num f (m + 1) i < num g (m + 1) i := by
  have h1 := num_lt hf m (i + 1)
  have h3 : (f i + 1) * 5 ^ m ≤ g i * 5 ^ m := Nat.mul_le_mul_right _ (by omega)
  show f i * 5 ^ m + num f m (i + 1) < g i * 5 ^ m + num g m (i + 1)
  rw [Nat.add_mul, Nat.one_mul] at h3
  omega
theorem cmpl_num {f g : Nat → Nat} (hf : ∀ i, f i < 5) (hg : ∀ i, g i < 5) : ∀ m i, cmpl (zf f) (zf g) m i < 0 ↔ num f m i < num g m i
  | 0, _ => by simp [cmpl, num]
  | m + 1, i => by
    have ih := cmpl_num hf hg m (i + 1)
    have hst : cmpl (zf f) (zf g) (m + 1) i = if cmpz ((f i : Nat) : Int) ((g i : Nat) : Int) = 0 then cmpl (zf f) (zf g) m (i + 1) else cmpz ((f i : Nat) : Int) ((g i : Nat) : Int) := rfl
    rw [hst]
    clear hst
    unfold cmpz
    rcases Nat.lt_trichotomy (f i) (g i) with h | h | h
    · have hs := num_step hf hg m i h
      rw [if_pos (show (f i : Int) < (g i : Int) by omega), if_neg (by omega)]
      exact ⟨fun _ => hs, fun _ => by omega⟩
    · rw [if_neg (show ¬ (f i : Int) < (g i : Int) by omega), if_neg (show ¬ (g i : Int) < (f i : Int) by omega), if_pos rfl]
      rw [ih]
      show num f m (i + 1) < num g m (i + 1) ↔ f i * 5 ^ m + num f m (i + 1) < g i * 5 ^ m + num g m (i + 1)
      rw [h]
      omega
    · have hs := num_step hg hf m i h
      rw [if_neg (show ¬ (f i : Int) < (g i : Int) by omega), if_pos (show (g i : Int) < (f i : Int) by omega), if_neg (by omega)]
      exact ⟨fun h2 => by omega, fun h2 => by omega⟩
theorem num_inj {f g : Nat → Nat} (hf : ∀ i, f i < 5) (hg : ∀ i, g i < 5) : ∀ m i, num f m i = num g m i → ∀ j, j < m → f (i + j) = g (i + j)
  | 0, _, _, j, hj => by omega
  | m + 1, i, h, j, hj => by
    rcases Nat.lt_trichotomy (f i) (g i) with h1 | h1 | h1
    · have := num_step hf hg m i h1; omega
    · have h2 : num f m (i + 1) = num g m (i + 1) := by
        have h3 : f i * 5 ^ m + num f m (i + 1) = g i * 5 ^ m + num g m (i + 1) := h
        rw [h1] at h3
        omega
      match j with
      | 0 => exact h1
      | j + 1 =>
        have := num_inj hf hg m (i + 1) h2 j (by omega)
        rwa [show i + 1 + j = i + (j + 1) by omega] at this
    · have := num_step hg hf m i h1; omega
/-- The number of a list. -/
def nl (n : Nat) (l : List Nat) : Nat := num (fun_ l) n 0
theorem nl_inj {n : Nat} {l m : List Nat} (h1 : l.length = n) (h2 : m.length = n) (hl : Small l) (hm : Small m) (h : nl n l = nl n m) : l = m := by
  have key := num_inj hl hm n 0 h
  apply List.ext_getElem (by omega)
  intro i hi hi'
  have k := key i (by omega)
  rw [Nat.zero_add] at k
  unfold fun_ at k
  rw [List.getD_eq_getElem?_getD, List.getD_eq_getElem?_getD, List.getElem?_eq_getElem hi, List.getElem?_eq_getElem hi'] at k
  exact k
theorem pl_sorted : ∀ n : Fin 6, (pl n.val).Pairwise (fun a b => nl n.val a < nl n.val b) := by decide +kernel
/-- All permutations that G holds, in their order. -/
def inAll (n : Nat) (G : List (List Nat)) : List (List Nat) := (pl n).filter fun l => decide (l ∈ G)
theorem sorted_is {n : Nat} (h1 : 1 ≤ n) (h5 : n ≤ 5) {G H : List (List Nat)} (hG : Gs n G) (hp : H.Perm G) (hs : H.Pairwise (fun a b => nl n a ≤ nl n b)) : H = inAll n G := by
  have hs2 : (inAll n G).Pairwise (fun a b => nl n a ≤ nl n b) := ((pl_sorted ⟨n, by omega⟩).filter _).imp fun h => Nat.le_of_lt h
  have hp2 : (inAll n G).Perm G := by
    refine (List.perm_ext_iff_of_nodup ((pl_nodup ⟨n, by omega⟩).1.filter _) hG.nodup).2 fun l => ?_
    show l ∈ (pl n).filter (fun l => decide (l ∈ G)) ↔ l ∈ G
    rw [List.mem_filter]
    exact ⟨fun h => of_decide_eq_true h.2, fun h => ⟨hG.mem l h, decide_eq_true h⟩⟩
  refine (hp.trans hp2.symm).eq_of_pairwise (fun a b ha hb h1' h2' => ?_) hs hs2
  have ma := hG.mem a (hp.mem_iff.1 ha)
  have mb := hG.mem b (hp2.mem_iff.1 hb)
  exact nl_inj (pl_good h1 h5 ma).1 (pl_good h1 h5 mb).1 (pl_small h1 h5 ma) (pl_small h1 h5 mb) (by omega)

/-- A slice of lists of length n. -/
def Lp (w : World) (o : Option Addr) (k n : Nat) (H : List (List Nat)) : Prop := k = H.length ∧ (0 < k → ∃ b off, o = some ⟨b, off, none⟩ ∧ b < w.heap.size ∧ ∀ c, c < k → ∃ oc cc, w.cell? ⟨b, off + c, none⟩ = some (.slice oc n cc) ∧ Lz w oc n (zf (fun_ (H.getD c []))))

/-- .. with their room. -/
def Lpq (w : World) (o : Option Addr) (k n : Nat) (H : List (List Nat)) : Prop := k = H.length ∧ (0 < k → ∃ b off, o = some ⟨b, off, none⟩ ∧ b < w.heap.size ∧ ∀ c, c < k → ∃ oc cc, w.cell? ⟨b, off + c, none⟩ = some (.slice oc n cc) ∧ n ≤ cc ∧ Lz w oc n (zf (fun_ (H.getD c []))))
theorem Lpq.lp {w : World} {o : Option Addr} {k n : Nat} {H : List (List Nat)} (h : Lpq w o k n H) : Lp w o k n H := ⟨h.1, fun hn => by
  obtain ⟨b, off, e, h1, h2⟩ := h.2 hn
  refine ⟨b, off, e, h1, fun c hc => ?_⟩
  obtain ⟨oc, cc, h3, _, h4⟩ := h2 c hc
  exact ⟨oc, cc, h3, h4⟩⟩
theorem below_sort {α : Type} [Inhabited α] (enc : α → Value) (w : World) (b off m : Nat) (d : Array α) (os : Array Obj) {R : Nat} (hR : R ≤ b) (hb : b < w.heap.size) : Below R w (sortWorld enc w b off m d os) := by
  refine ⟨rfl, rfl, rfl, by simp [sortWorld, Sort.grow, Sort.putRow, Sort.mapBlock, Sort.ahead], fun k hk => ?_⟩
  by_cases hlt : k < w.heap.size
  · simp only [sortWorld, Sort.grow, Sort.putRow, Sort.mapBlock, Sort.ahead]
    rw [Array.getElem?_append_left (by simpa using hlt), Array.getElem?_modify, if_neg (by omega)]
  · omega

set_option maxHeartbeats 1000000 in
theorem sort_grp {w : World} {R M n : Nat} {v : Value} {vs : List Value} {G : List (List Nat)} (hg : Grp w R M n v vs G) (h1 : 1 ≤ n) (h5 : n ≤ 5) (hG : Gs n G) (hK : 0 < G.length) :
    Calls Tryd.prog 59 #[v, .func (.func 47) #[] #[]] w fun e w' => (∃ u, e = .returned u) ∧ (∃ o cap, v = .slice o G.length cap ∧ Lpq w' o G.length n (inAll n G)) ∧ Below R w w' := by
  obtain ⟨b, cap, _, _, _, hv, hb, hR, _⟩ := hg.at_ hK
  haveI : Inhabited (Fin G.length) := ⟨⟨0, hK⟩⟩
  have hvl : vs.length = G.length := by have := hg.own.1; omega
  have hG120 := hG.len h5
  subst hv
  -- the rows
  let enc : Fin G.length → Value := fun c => vs.getD c.val undef
  have henc : ∀ c : Fin G.length, ∃ g off k, enc c = .slice (some ⟨g, off, none⟩) n k ∧ g < w.heap.size ∧ (∀ i, i < n → w.cell? ⟨g, off + i, none⟩ = some (.int .i64 (zf (fun_ (G.getD c.val [])) i))) ∧ g ≠ b := by
    intro c
    obtain ⟨g, off, k, e1, e2, e3, _, e5⟩ := hg.rows c.val c.isLt
    refine ⟨g, off, k, ?_, e2, e3, fun e => e5 (by rw [e]; rfl)⟩
    show vs.getD c.val undef = _
    rw [List.getD_eq_getElem?_getD, e1]; rfl
  let cf : Fin G.length → Fin G.length → Int := fun x y => cmpl (zf (fun_ (G.getD x.val []))) (zf (fun_ (G.getD y.val []))) n 0
  have hmem : ∀ c : Fin G.length, G.getD c.val [] ∈ pl n := fun c => hG.at_ c.isLt
  have hcf : ∀ x y, cf x y < 0 ↔ nl n (G.getD x.val []) < nl n (G.getD y.val []) := fun x y => cmpl_num (pl_small h1 h5 (hmem x)) (pl_small h1 h5 (hmem y)) n 0
  obtain ⟨N, hN⟩ : ∃ N : Fin G.length → Nat, ∀ x, nl n (G.getD x.val []) = N x := ⟨_, fun _ => rfl⟩
  have hlt : ∀ x y, ltOf cf x y = decide (N x < N y) := fun x y => by
    unfold ltOf
    rw [← hN, ← hN]
    exact decide_eq_decide.2 (hcf x y)
  let d : Array (Fin G.length) := Array.ofFn fun c => c
  have hd : d.size = G.length := Array.size_ofFn
  have hdat : ∀ j (hj : j < G.length), d[j]! = ⟨j, hj⟩ := fun j hj => by
    show (Array.ofFn fun c : Fin G.length => c)[j]! = _
    rw [getElem!_pos _ j (by simpa using hj)]
    simp
  have eg : ∀ args w, (callFunc 47 args).run Tryd.prog w = .ok (.enter 47 args) w := enters_of Tryd.func47 (by kernel_rfl) rfl
  have hH : Sort.Holds enc w b 0 d := by
    intro j hj
    rw [hd] at hj
    obtain ⟨g, off, k, e1, _, _, _, _⟩ := hg.rows j hj
    refine ⟨?_, hg.own.frozenAt (0 + j)⟩
    rw [hg.own.cellAt (0 + j) (by omega), Nat.zero_add, hdat j hj, e1]
    show _ = some (vs.getD j undef)
    rw [List.getD_eq_getElem?_getD, e1]; rfl
  have hcmp : CmpReads Tryd.prog 47 #[] enc cf b 0 d.size w := by
    intro m os dk hdk x y
    obtain ⟨g, off, k, e1, e2, e3, e4⟩ := henc x
    obtain ⟨g', off', k', e1', e2', e3', e4'⟩ := henc y
    have hsz : w.heap.size ≤ (sortWorld enc w b 0 m dk os).heap.size := (below_sort enc w b 0 m dk os (R := 0) (Nat.zero_le _) hb).size
    have keep : ∀ q i, q < w.heap.size → q ≠ b → (sortWorld enc w b 0 m dk os).cell? ⟨q, i, none⟩ = w.cell? ⟨q, i, none⟩ := by
      intro q i hq hqb
      unfold sortWorld
      rw [Sort.cell?_grow _ _ _ (by simpa [Sort.putRow, Sort.mapBlock, Sort.ahead] using hq), Sort.cell?_putRow_other _ _ _ _ _ _ (.inl hqb)]
      rfl
    have l1 : Lz (sortWorld enc w b 0 m dk os) (some ⟨g, off, none⟩) n (zf (fun_ (G.getD x.val []))) := fun _ => ⟨g, off, rfl, by omega, fun i hi => (keep g _ e2 e4).trans (e3 i hi)⟩
    have l2 : Lz (sortWorld enc w b 0 m dk os) (some ⟨g', off', none⟩) n (zf (fun_ (G.getD y.val []))) := fun _ => ⟨g', off', rfl, by omega, fun i hi => (keep g' _ e2' e4').trans (e3' i hi)⟩
    rw [e1, e1']
    exact (scmp_any n (by omega) _ _ _ _ k k' _ l1 l2).mono fun e w' h => ⟨h.1, 0, h.2.symm⟩
  have main := Tryd.sortFunc enc (fun c => by obtain ⟨g, off, k, e1, _⟩ := henc c; rw [e1]; rfl) cf ⟨fun x => by rw [hlt]; simp, fun x y z a c => by rw [hlt] at *; simp at *; omega, fun x y z a c => by rw [hlt] at *; simp at *; omega⟩ 47 #[] b 0 cap d w eg hcmp.lays hH hb (by omega) (fun x y a c => by
    rw [hlt] at a c
    have e : nl n (G.getD x.val []) = nl n (G.getD y.val []) := by rw [hN, hN]; simp at a c; omega
    have e2 := nl_inj (pl_good h1 h5 (hmem x)).1 (pl_good h1 h5 (hmem y)).1 (pl_small h1 h5 (hmem x)) (pl_small h1 h5 (hmem y)) e
    rw [List.getD_eq_getElem?_getD, List.getD_eq_getElem?_getD, List.getElem?_eq_getElem x.isLt, List.getElem?_eq_getElem y.isLt, Option.getD_some, Option.getD_some] at e2
    have key := List.pairwise_iff_getElem.1 hG.nodup
    apply Fin.ext
    rcases Nat.lt_trichotomy x.val y.val with h | h | h
    · exact absurd e2 (key _ _ x.isLt y.isLt h)
    · exact h
    · exact absurd e2.symm (key _ _ y.isLt x.isLt h))
  rw [hd] at main
  refine main.mono ?_
  rintro e w' ⟨rfl, m, os, rfl⟩
  obtain ⟨P, hP⟩ : ∃ P, d.toList.mergeSort (fun x y => !(ltOf cf) y x) = P := ⟨_, rfl⟩
  rw [hP]
  have hperm : P.Perm d.toList := hP ▸ List.mergeSort_perm _ _
  have hPl : P.length = G.length := by rw [hperm.length_eq, Array.length_toList, hd]
  have hsort : P.Pairwise (fun x y => nl n (G.getD x.val []) ≤ nl n (G.getD y.val [])) := by
    have := List.pairwise_mergeSort (le := fun x y => !(ltOf cf) y x) (fun a b c h h' => by rw [hlt] at *; simp at *; omega) (fun a b => by rw [hlt, hlt]; simp; omega) d.toList
    rw [hP] at this
    exact this.imp fun h => by rw [hlt] at h; simp at h; rw [hN, hN]; exact h
  have hmap : (P.map fun c => G.getD c.val []) = inAll n G := by
    refine sorted_is h1 h5 hG ?_ (List.pairwise_map.2 hsort)
    have e : d.toList.map (fun c => G.getD c.val []) = G := by
      apply List.ext_getElem
      · simp [hd]
      · intro i hi hi'
        simp only [List.getElem_map]
        have e2 : d.toList[i]'(by simpa using hi) = ⟨i, hi'⟩ := by simp [d]
        rw [e2, List.getD_eq_getElem?_getD, List.getElem?_eq_getElem hi']; rfl
    have h2 := hperm.map fun c => G.getD c.val []
    rwa [e] at h2
  refine ⟨⟨_, rfl⟩, ⟨_, _, rfl, ?_, fun _ => ⟨b, 0, rfl, ?_, fun c hc => ?_⟩⟩, below_sort enc w b 0 m _ os hR hb⟩
  · rw [← hmap, List.length_map, hPl]
  · exact Nat.lt_of_lt_of_le hb (below_sort enc w b 0 m P.toArray os (R := 0) (Nat.zero_le _) hb).size
  · have hcP : c < P.length := by omega
    obtain ⟨g, off, k, e1, e2, e3, e4⟩ := henc (P[c])
    have hcell : (sortWorld enc w b 0 m P.toArray os).cell? ⟨b, 0 + c, none⟩ = some (enc P[c]) := by
      unfold sortWorld
      rw [Sort.cell?_grow _ _ _ (by simpa [Sort.putRow, Sort.mapBlock, Sort.ahead] using hb), Sort.cell?_putRow enc (Sort.ahead w m) b 0 d P.toArray (fun j hj => hH j hj) (by simp [hPl, hd]) c (by simpa using hcP)]
      rw [getElem!_pos _ c (by simpa using hcP)]
      simp
    have hcapP : n ≤ k := by
      have hin : enc (P[c]) ∈ vs := by
        show vs.getD (P[c]).val undef ∈ vs
        rw [List.getD_eq_getElem?_getD, List.getElem?_eq_getElem (by rw [hvl]; exact (P[c]).isLt)]
        exact List.getElem_mem _
      obtain ⟨o2, m2, c2, e5, e6⟩ := hg.caps _ hin
      rw [e1] at e5
      cases e5
      exact e6
    refine ⟨_, _, by rw [hcell, e1], hcapP, fun _ => ⟨g, off, rfl, Nat.lt_of_lt_of_le e2 (below_sort enc w b 0 m P.toArray os (R := 0) (Nat.zero_le _) hb).size, fun i hi => ?_⟩⟩
    have hrow : (inAll n G).getD c [] = G.getD (P[c]).val [] := by
      rw [← hmap, List.getD_eq_getElem?_getD, List.getElem?_map, List.getElem?_eq_getElem hcP]; rfl
    rw [hrow, ← e3 i hi]
    unfold sortWorld
    rw [Sort.cell?_grow _ _ _ (by simpa [Sort.putRow, Sort.mapBlock, Sort.ahead] using e2), Sort.cell?_putRow_other _ _ _ _ _ _ (.inl e4)]
    rfl

end Go.Proofs.YtgppdbiimlbpjaaDoor
