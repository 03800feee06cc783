/- Package partition and its specification: Classes. -/
import Derived.Test.YtokjdlljhloflaaPtY
import Derived.WalkKit
import Derived.WalkSpells
import Derived.WalkLawsBesides
import Derived.Handy
import Derived.Deep.QuietTactic
import Derived.BigQuiet
import Derived.Outline
import Derived.Laws.BitsAllLaws
import Derived.IntWalk
import Derived.Lib.SmallJoins
import Derived.Lib.Hide
import Derived.Deep.DeepCutAuto
import Derived.LoopTactic
import Derived.Deep.RegionWith
namespace Go.Proofs.Ytokjdlljhloflaa
set_option linter.unusedVariables false
set_option linter.unusedSimpArgs false
open Go.RowKit Part

/-- A slice of lists and an error come back. -/
def CRes (k : Nat) (L : Nat → List Int) (c : Int) (w : World) (e : Ending) (w' : World) : Prop := ∃ o cap, e = .returned (.tuple #[.slice o k cap, .int .i64 c]) ∧ Ls w' o k L ∧ Below w.heap.size w w'
/-- The cells of k slices. -/
def vcells (k : Nat) (V : Nat → Value) : Array Value := ((List.range k).map V).toArray
theorem vcells_size (k : Nat) (V : Nat → Value) : (vcells k V).size = k := by simp [vcells]
theorem vcells_get {k : Nat} (V : Nat → Value) {i : Nat} (h : i < k) : (vcells k V)[i]? = some (V i) := by simp [vcells, h]
def updv (V : Nat → Value) (i : Nat) (x : Value) : Nat → Value := fun j => if j = i then x else V j
theorem vcells_set (k : Nat) (V : Nat → Value) (i : Nat) (x : Value) : (vcells k V).setIfInBounds i x = vcells k (updv V i x) := by
  apply Array.ext_getElem?
  intro j
  rw [Array.getElem?_setIfInBounds]
  by_cases hj : j < k
  · by_cases e : i = j
    · subst e
      rw [if_pos rfl, if_pos (by rw [vcells_size]; exact hj), vcells_get _ hj]
      simp [updv]
    · rw [if_neg e, vcells_get _ hj, vcells_get _ hj]
      simp [updv, Ne.symm e]
  · have h1 : ∀ g, (vcells k g)[j]? = none := fun g => Array.getElem?_eq_none (by rw [vcells_size]; omega)
    by_cases e : i = j
    · subst e
      rw [if_pos rfl, if_neg (by rw [vcells_size]; exact hj), h1]
    · rw [if_neg e, h1, h1]
theorem vcells_made (k : Nat) : madeCells #[Value.slice none 0 0] k = vcells k (fun _ => .slice none 0 0) := by
  apply Array.ext_getElem?
  intro j
  by_cases hj : j < k
  · rw [vcells_get _ hj]
    have e : j % 1 = 0 := by omega
    simp only [madeCells, Array.getElem?_map, Array.getElem?_range, hj, if_true, Option.map_some, List.size_toArray, List.length_singleton, e]
    rfl
  · rw [Array.getElem?_eq_none (by rw [size_madeCells]; omega), Array.getElem?_eq_none (by rw [vcells_size]; omega)]
theorem run_vecs (n : Nat) (hn : n ≤ 65536) (w : World) : (Instr.makeSlice 42 (.int .i64 (n : Int)) (.int .i64 (n : Int))).run Try.prog w = .ok (.slice (some ⟨w.heap.size, 0, none⟩) n n) (w.alloc (.cells (vcells n (fun _ => .slice none 0 0)) 22)) := by
  obtain ⟨i0, hi, hz0, hz1, hz2⟩ := info_parts infoL
  have hr := run_make (P := Try.prog) w 42 22 i0 (.slice none 0 0) Try.underlying42 hi hz0 .i64 .i64 n n (by omega) (by omega) (by rw [hz2]; omega) (by omega)
  rw [hr, hz1]
  simp only [Int.toNat_natCast, Nat.mul_one]
  rw [← vcells_made]
  rfl
/-- The classes lie in block B; each one is a row of the call's own, from block R on, and no two share one. -/
structure Cls (w : World) (R B k : Nat) (V : Nat → Value) (L : Nat → List Int) : Prop where
  box : Box w B (vcells k V) 22
  rows : ∀ c, c < k → Row w R (V c) (L c)
  apart : ∀ c d, c < k → d < k → c ≠ d → (V c).ownBlock = none ∨ (V c).ownBlock ≠ (V d).ownBlock
  lt : B < R
theorem Row.ownLt {w : World} {R : Nat} {v : Value} {l : List Int} (h : Row w R v l) : ∀ g, v.ownBlock = some g → R ≤ g ∧ g < w.heap.size := h.lt
theorem Row.grown {w w' : World} {R : Nat} {v u : Value} {l : List Int} (h : Row w R v l) (hg : w.grownBy w' u.ownBlock) (hne : v.ownBlock = none ∨ v.ownBlock ≠ u.ownBlock) : Row w' R v l := World.ownsRow.kept h hg hne
theorem Cls.alloc {w : World} {R B k : Nat} {V : Nat → Value} {L : Nat → List Int} (h : Cls w R B k V L) (o : Obj) : Cls (w.alloc o) R B k V L :=
  ⟨h.box.alloc o, fun c hc => (h.rows c hc).alloc o, h.apart, h.lt⟩
theorem Cls.step {w w' : World} {R B k x g cap m : Nat} {V : Nat → Value} {L L' : Nat → List Int} {l : List Int} (h : Cls w R B k V L) (hx : x < k) (hrow : Row w' R (.slice (some ⟨g, 0, none⟩) m cap) l) (hg : w.grownBy w' (V x).ownBlock) (hat : some g = (V x).ownBlock ∨ g = w.heap.size) (hl : L' x = l) (hL : ∀ c, c < k → c ≠ x → L' c = L c) :
    Cls (w'.setCell ⟨B, x, none⟩ (.slice (some ⟨g, 0, none⟩) m cap)) R B k (updv V x (.slice (some ⟨g, 0, none⟩) m cap)) L' := by
  have hBx : some B ≠ (V x).ownBlock := fun e => by
    have h1 := (h.rows x hx).ownLt B e.symm
    have h2 := h.lt
    omega
  have hob : (Value.slice (some ⟨g, 0, none⟩) m cap).ownBlock = some g := rfl
  have hother : ∀ c, c < k → c ≠ x → (V c).ownBlock = none ∨ (V c).ownBlock ≠ some g := fun c hc hcx => by
    rcases hat with e | e
    · rcases h.apart c x hc hx hcx with h1 | h1
      · exact .inl h1
      · exact .inr (by rw [e]; exact h1)
    · refine .inr fun e2 => ?_
      have := (h.rows c hc).ownLt g e2
      omega
  refine ⟨?_, ?_, ?_, h.lt⟩
  · have h1 := (h.box.grown hg hBx).set x (.slice (some ⟨g, 0, none⟩) m cap)
    rw [vcells_set] at h1
    exact h1
  · intro c hc
    unfold updv
    by_cases e : c = x
    · subst e
      rw [if_pos rfl, hl]
      exact hrow.set h.lt _
    · rw [if_neg e, hL c hc e]
      exact ((h.rows c hc).grown hg (h.apart c x hc hx e)).set h.lt _
  · intro c d hc hd hcd
    unfold updv
    by_cases e : c = x
    · subst e
      rw [if_pos rfl, if_neg (Ne.symm hcd)]
      right
      rw [hob]
      rcases hother d hd (Ne.symm hcd) with h1 | h1
      · rw [h1]; simp
      · exact Ne.symm h1
    · rw [if_neg e]
      by_cases e2 : d = x
      · subst e2
        rw [if_pos rfl, hob]
        exact hother c hc e
      · rw [if_neg e2]
        exact h.apart c d hc hd hcd
theorem Cls.ls {w : World} {R B k : Nat} {V : Nat → Value} {L : Nat → List Int} (h : Cls w R B k V L) : Ls w (some ⟨B, 0, none⟩) k L := fun hn => by
  refine ⟨B, 0, rfl, h.box.lt, fun c hc => ?_⟩
  obtain ⟨oc, cc, e, hl⟩ := (h.rows c hc).shape
  exact ⟨oc, cc, by rw [Nat.zero_add, h.box.cell, vcells_get _ hc, e], hl⟩

theorem classes_bad (n : Nat) (f : Nat → Int) (c : Int) (hc : pcd n f = c) (h0 : c ≠ 0) (o : Option Addr) (cap : Nat) (w : World) (hL : Lz w o n f) : Calls Try.prog 17 #[.slice o n cap] w (CRes 0 (fun _ => []) c w) := by
  have H := Lib.hid (check_any n f o cap w hL)
  rw [hc] at H
  have h1 : (c != 0) = true := by rw [bne_iff_ne]; exact h0
  clear hL hc h0
  go_enter Try.func17, Try.ntmps17
  go_wp2_with fail
  refine H.out.mono ?_
  rintro e w' ⟨rfl, rfl⟩
  go_wp2_with fail
  go_ret2
  exact ⟨_, _, rfl, Ls.nil, Below.refl _ _⟩

set_option maxRecDepth 100000 in
set_option maxHeartbeats 4000000 in
theorem classes_good (n : Nat) (f : Nat → Int) (hf : Good n f) (o : Option Addr) (cap : Nat) (w : World) (hL : Lz w o n f) : Calls Try.prog 17 #[.slice o n cap] w (CRes (cnt (nat f) n) (memb (nat f) n) 0 w) := by
  have H := Lib.hid (check_any n f o cap w hL)
  rw [(pcd_zero n f).2 hf] at H
  have HC := Lib.hid (count_any n f hf o cap w hL)
  have hn := hf.1
  have hkn : cnt (nat f) n ≤ n := cnt_small _ _
  have hmk := fun w => run_vecs (cnt (nat f) n) (by omega) w
  obtain ⟨a, ha⟩ : ∃ a, nat f = a := ⟨_, rfl⟩
  rw [ha] at HC hkn hmk ⊢
  have HEa : Hid (∀ j, j < n → f j = ((a j : Nat) : Int)) := Lib.hid (fun j hj => by have h1 := hf.2.1 j hj; rw [← ha]; show f j = ((f j).toNat : Int); omega)
  have HWa : Hid (Wf n a) := Lib.hid (ha ▸ hf.2.2)
  obtain ⟨k, hk⟩ : ∃ k, cnt a n = k := ⟨_, rfl⟩
  have hlk : ∀ j, j < n → a j < k := fun j hj => hk ▸ lt_cnt HWa.out hj (Nat.le_refl n)
  have HLk := Lib.hid hlk
  rw [hk] at HC hkn hmk ⊢
  have HL := Lib.hid hL
  clear hL hf ha hk hlk
  go_enter Try.func17, Try.ntmps17
  go_wp2_with fail
  refine H.out.mono ?_
  rintro e w' ⟨rfl, rfl⟩
  go_wp2_with fail
  refine HC.out.mono ?_
  rintro e w' ⟨rfl, rfl⟩
  go_wp2_with fail
  go_loopw [18] (fun j wr => ∃ i : Nat, i ≤ n ∧ j = .int .i64 (i : Int) ∧ (∃ V, Cls wr (w.heap.size + 1) w.heap.size k V (memb a i)) ∧ Below w.heap.size w wr) (fun j _ => n - (intOf j).toNat)
  case atStart => exact ⟨0, by omega, rfl, ⟨fun _ => .slice none 0 0, Box.new w _ _, fun c _ => Row.nil _ _, fun c d _ _ _ => .inl rfl, by omega⟩, (Below.refl _ _).alloc (Nat.le_refl _) _⟩
  case round =>
    clear hmk
    obtain ⟨i, hi, rfl, ⟨V, hV⟩, hB⟩ := hrel
    have HV := Lib.hid hV
    have HB := Lib.hid hB
    clear hV hB
    by_cases hlt : i < n
    · obtain ⟨bl, ofs, rfl, hbl, hcl⟩ := HL.out (by omega)
      have c1 := (HB.out.cell (p := ⟨bl, ofs + i, none⟩) hbl).trans (hcl i hlt)
      rw [HEa.out i hlt] at c1
      obtain ⟨x, hx⟩ : ∃ x, a i = x := ⟨_, rfl⟩
      have hxk : x < k := hx ▸ HLk.out i hlt
      rw [hx] at c1
      have HX := Lib.hid hx
      have hml := memb_len a i x
      have c2 := (HV.out.box.cell x).trans (vcells_get V hxk)
      have f2 := HV.out.box.open_ x
      have hrow := HV.out.rows x hxk
      obtain ⟨vx, hvx⟩ : ∃ vx, V x = vx := ⟨_, rfl⟩
      obtain ⟨m, hm⟩ : ∃ m, (memb a i x).length = m := ⟨_, rfl⟩
      rw [hvx] at c2 hrow
      obtain ⟨ov, cv, rfl, hov⟩ := hrow.shape' hm
      have HVx := Lib.hid hvx
      have HM := Lib.hid hm
      have HRow := Lib.hid hrow
      have hsz := HB.out.size
      have hlt1 := HV.out.box.lt
      rw [hm] at hml
      clear hcl hx hov hvx hm hrow
      have hi1 : (i : Int) < (n : Int) := by omega
      have hx1 : (x : Int) < (k : Int) := by omega
      go_wp2_with (at_builtin; refine app_int2 _ rfl _ _ rfl (w.heap.size + 1) _ _ rfl (HRow.out.alloc _) wr.heap.size (i : Int) rfl (World.cell?_alloc_mark _ #[_] 3 (0, 0) 0) (by rw [HM.out]; omega) (by simp; omega) ?_; intro gg cv2 w2 hr2 hgr hat; rw [HM.out] at hr2 ⊢; have HR2 := Lib.hid hr2; have HGr := Lib.hid hgr; have HAt := Lib.hid hat; have hbx := (HV.out.box.alloc (.cells #[.int .i64 (i : Int)] 3)).grown hgr (fun e => by have h1 := HRow.out.ownLt _ e.symm; omega); have g2 := (hbx.cell x).trans (vcells_get V hxk); have g3 := hbx.open_ x; clear hr2 hgr hat hbx)
      go_roundw
      case rel =>
        refine ⟨i + 1, by omega, by go_num, ⟨_, (HV.out.alloc (.cells #[.int .i64 (i : Int)] 3)).step hxk HR2.out (HVx.out ▸ HGr.out) (HVx.out ▸ HAt.out) (memb_yes HX.out) (fun c _ hcx => memb_no (by rw [HX.out]; exact fun e => hcx e.symm))⟩, ?_⟩
        exact ((HB.out.alloc hsz _).grown HGr.out (by simp; omega) (fun k e => by have := HRow.out.ownLt k e; omega)).setCell (by simp) _
      case measure => simp [intOf]; omega
    · have e : i = n := by omega
      subst e
      go_wp2_with fail
      go_ret2
      exact ⟨_, _, rfl, HV.out.ls, HB.out⟩

theorem own_cases {w : World} {R : Nat} {e : TypeId} {v : Value} {n : Nat} {xs : List Value} (h : w.ownsRow R e 1 v n xs) : (v = .slice none 0 0 ∧ n = 0) ∨ ∃ g cap, v = .slice (some ⟨g, 0, none⟩) n cap ∧ R ≤ g ∧ g < w.heap.size ∧ ∀ i u, xs[i]? = some u → w.cell? ⟨g, i, none⟩ = some u := by
  rcases h.2 with ⟨h0, h1⟩ | ⟨g, cap, cur, h0, hHL, hLc, hcl, hcm, hcs, htk⟩
  · exact .inl ⟨h0, h1⟩
  · refine .inr ⟨g, cap, h0, hHL, (Array.getElem?_eq_some_iff.1 hLc).1, fun i u hu => ?_⟩
    have hi : i < n := by
      have h2 := (List.getElem?_eq_some_iff.1 hu).1
      have h3 := h.1
      omega
    rw [Joins.cell_of_block hLc, ← hu, ← htk, List.getElem?_take, if_pos (by omega), Array.getElem?_toList]
theorem own_keep {w w' : World} {R : Nat} {e : TypeId} {v : Value} {n : Nat} {xs : List Value} (h : w.ownsRow R e 1 v n xs) (hk : ∀ k, R ≤ k → k < w.heap.size → w'.heap[k]? = w.heap[k]?) : w'.ownsRow R e 1 v n xs := by
  refine ⟨h.1, ?_⟩
  rcases h.2 with h0 | ⟨g, cap, cur, h1, h2, h3, h4⟩
  · exact .inl h0
  · exact .inr ⟨g, cap, cur, h1, h2, (hk g h2 (Array.getElem?_eq_some_iff.1 h3).1).trans h3, h4⟩
theorem Row.le {w : World} {R R' : Nat} {v : Value} {l : List Int} (h : Row w R v l) (hR : R' ≤ R) : Row w R' v l := by
  refine ⟨h.1, ?_⟩
  rcases h.2 with h0 | ⟨g, cap, cur, h1, h2, h3⟩
  · exact .inl h0
  · exact .inr ⟨g, cap, cur, h1, by omega, h3⟩
theorem Row.one {w : World} {R : Nat} {v : Value} {l : List Int} (h : Row w R v l) : v.oneCell' = true := by
  rcases h.cases with ⟨rfl, _⟩ | ⟨g, cap, rfl, _⟩ <;> rfl
/-- A row of rows; none of them lies in the row itself. -/
structure Rws (w : World) (R : Nat) (v : Value) (k : Nat) (vs : List Value) (L : Nat → List Int) : Prop where
  own : w.ownsRow R 22 1 v k vs
  rows : ∀ c, c < k → ∃ u, vs[c]? = some u ∧ Row w R u (L c) ∧ (u.ownBlock = none ∨ u.ownBlock ≠ v.ownBlock)
theorem Rws.below {w w' : World} {R k : Nat} {v : Value} {vs : List Value} {L : Nat → List Int} (h : Rws w R v k vs L) (hb : Below w.heap.size w w') : Rws w' R v k vs L :=
  ⟨own_keep h.own fun j _ hj => hb.block j hj, fun c hc => by obtain ⟨u, h1, h2, h3⟩ := h.rows c hc; exact ⟨u, h1, h2.below hb, h3⟩⟩
theorem Rws.ls {w : World} {R k : Nat} {v : Value} {vs : List Value} {L : Nat → List Int} (h : Rws w R v k vs L) : ∃ o cap, v = .slice o k cap ∧ Ls w o k L := by
  rcases own_cases h.own with ⟨rfl, rfl⟩ | ⟨g, cap, rfl, _, hg, hc⟩
  · exact ⟨none, 0, rfl, Ls.nil⟩
  · refine ⟨_, cap, rfl, fun hn => ⟨g, 0, rfl, hg, fun c hck => ?_⟩⟩
    obtain ⟨u, h1, h2, _⟩ := h.rows c hck
    obtain ⟨oc, cc, rfl, hl⟩ := h2.shape
    exact ⟨oc, cc, by rw [Nat.zero_add]; exact hc c _ h1, hl⟩
theorem Rws.step {w w' : World} {R k : Nat} {v v' u : Value} {vs : List Value} {L : Nat → List Int} (h : Rws w R v k vs L) (hu : Row w R u (L k)) (hux : u.ownBlock = none ∨ u.ownBlock ≠ v.ownBlock) (hown : w'.ownsRow R 22 1 v' (k + 1) (vs ++ [u])) (hg : w.grownBy w' v.ownBlock) (hat : v'.ownBlock = v.ownBlock ∨ v'.ownBlock = some w.heap.size) : Rws w' R v' (k + 1) (vs ++ [u]) L := by
  have hlen : vs.length = k := by have := h.own.1; omega
  refine ⟨hown, fun c hc => ?_⟩
  have key : ∀ x l, Row w R x l → (x.ownBlock = none ∨ x.ownBlock ≠ v.ownBlock) → Row w' R x l ∧ (x.ownBlock = none ∨ x.ownBlock ≠ v'.ownBlock) := by
    intro x l hx hxv
    refine ⟨hx.grown hg hxv, ?_⟩
    rcases hat with e | e
    · rw [e]; exact hxv
    · rw [e]
      right
      intro e2
      have := hx.ownLt _ e2
      omega
  by_cases e : c = k
  · subst e
    exact ⟨u, by rw [List.getElem?_append_right (by omega), hlen]; simp, key u _ hu hux⟩
  · obtain ⟨x, h1, h2, h3⟩ := h.rows c (by omega)
    exact ⟨x, by rw [List.getElem?_append_left (by omega)]; exact h1, key x _ h2 h3⟩
end Go.Proofs.Ytokjdlljhloflaa
