/- Package partition: Join. -/
import Derived.Test.YtokjdlljhloflaaPtQ
import Derived.WalkKit
import Derived.WalkSpells
import Derived.WalkLawsBesides
import Derived.Handy
import Derived.Deep.QuietTactic
import Derived.BigQuiet
import Derived.Outline
import Derived.Laws.BitsAllLaws
import Derived.IntWalk
import Derived.Lib.SmallJoins
import Derived.Lib.Hide
import Derived.Deep.DeepCutAuto
import Derived.LoopTactic
import Derived.Deep.RegionWith
import Derived.Deep.RegionHeld3
namespace Go.Proofs.Ytokjdlljhloflaa
set_option linter.unusedVariables false
set_option linter.unusedSimpArgs false
open Go.RowKit Part

/-- The world of Join: parents in block B, behind the variable in B + 1, the closure's in B + 2, both lists in B + 3. -/
structure JW (w : World) (n cap cap' : Nat) (o o' : Option Addr) (V : World) (p : Nat → Nat) : Prop where
  par : Par V (w.heap.size + 1) w.heap.size n p
  c2 : V.cell? ⟨w.heap.size + 2, 0, none⟩ = some (.func (.func 21) #[] #[.pointer (some ⟨w.heap.size + 1, 0, none⟩)])
  ca : V.cell? ⟨w.heap.size + 3, 0, none⟩ = some (.slice o n cap)
  cb : V.cell? ⟨w.heap.size + 3, 1, none⟩ = some (.slice o' n cap')
  kept : Below w.heap.size w V
  size : w.heap.size + 4 ≤ V.heap.size
theorem JW.turn {w : World} {n cap cap' : Nat} {o o' : Option Addr} {V V' : World} {p p' : Nat → Nat} (h : JW w n cap cap' o o' V p) (hp : Par V' (w.heap.size + 1) w.heap.size n p') (hk : Kept (some w.heap.size) (w.heap.size + 4) V V') : JW w n cap cap' o o' V' p' := by
  have hc : ∀ b i, b < w.heap.size + 4 → b ≠ w.heap.size → V'.cell? ⟨b, i, none⟩ = V.cell? ⟨b, i, none⟩ := fun b i h1 h2 => World.cell?_of_block (w := V) (a := ⟨b, i, none⟩) (hk.block b h1 (fun e => h2 (Option.some.inj e)))
  exact ⟨hp, (hc _ _ (by omega) (by omega)).trans h.c2, (hc _ _ (by omega) (by omega)).trans h.ca, (hc _ _ (by omega) (by omega)).trans h.cb, h.kept.trans ((hk.le (by omega)).below (fun k e => by have := Option.some.inj e; omega)), Nat.le_trans h.size hk.size⟩
theorem JW.below {w : World} {n cap cap' : Nat} {o o' : Option Addr} {V V' : World} {p : Nat → Nat} (h : JW w n cap cap' o o' V p) (hk : Below (w.heap.size + 4) V V') : JW w n cap cap' o o' V' p :=
  h.turn (h.par.below hk (by omega) (by omega)) (Kept.of hk)
/-- .. with a row of first places, the roots being those of p0. -/
def JSt (w : World) (n cap cap' : Nat) (o o' : Option Addr) (p0 : Nat → Nat) (v : Value) (l : List Int) (V : World) : Prop :=
  ∃ p, JW w n cap cap' o o' V p ∧ (∀ j, root p j = root p0 j) ∧ Row V (w.heap.size + 4) v l
theorem JSt.drew {w : World} {n cap cap' : Nat} {o o' : Option Addr} {p0 : Nat → Nat} {v : Value} {l : List Int} {V : World} (h : JSt w n cap cap' o o' p0 v l V) : JSt w n cap cap' o o' p0 v l V.drew := by
  obtain ⟨p, h1, h2, h3⟩ := h
  exact ⟨p, ⟨h1.par.drew, h1.c2, h1.ca, h1.cb, h1.kept.drew, h1.size⟩, h2, h3⟩
theorem first_st {w : World} {n cap cap' : Nat} {o o' : Option Addr} {p0 : Nat → Nat} {v : Value} {l : List Int} {V : World} (hn : n ≤ 65536) {i : Nat} (hi : i < n) (h : JSt w n cap cap' o o' p0 v l V) :
    Calls Try.prog 21 #[.int .i64 (i : Int), .pointer (some ⟨w.heap.size + 1, 0, none⟩)] V fun e V' => e = .returned (.int .i64 ((root p0 i : Nat) : Int)) ∧ JSt w n cap cap' o o' p0 v l V' := by
  obtain ⟨p, h1, h2, h3⟩ := h
  refine (first_ok n hn p (w.heap.size + 1) w.heap.size i hi V h1.par).mono ?_
  rintro e V' ⟨q, rfl, hq, hr, hk⟩
  exact ⟨by rw [h2], q, h1.turn hq (hk.le h1.size), fun j => (hr j).trans (h2 j), h3.keep fun k h1 h2 => hk.block k h2 (fun e => by have := Option.some.inj e; omega)⟩
theorem run_store_func (P : Program) (w : World) (a : Addr) (m : Mode) (f : Fn) (x y : Array Value) : (store a (.func f x y) m).run P w = stored P w a (.func f x y) m := run_store P w a _ m rfl
attribute [local go_sem] run_store_func
/-- The first i parents are laid. -/
def idf (i : Nat) : Nat → Int := fun j => if j < i then (j : Int) else 0
theorem idf_step (n i : Nat) : vec n (updz (idf i) i (i : Int)) = vec n (idf (i + 1)) := vec_congr fun j _ => by
  unfold updz idf
  by_cases e : j = i
  · subst e; simp
  · rw [if_neg e]
    by_cases h1 : j < i
    · rw [if_pos h1, if_pos (by omega)]
    · rw [if_neg h1, if_neg (by omega)]

/-- A pair that is refused. -/
theorem join_bad (n m : Nat) (f g : Nat → Int) (c : Int) (hc : pcd2 n f m g = c) (h0 : c ≠ 0) (o p : Option Addr) (cap cap' : Nat) (w : World) (hL : Lz w o n f) (hL' : Lz w p m g) : Calls Try.prog 9 #[.slice o n cap, .slice p m cap'] w (PRes 0 (fun _ => 0) c w) := by
  have H := Lib.hid (pair_any n m f g o p cap cap' w hL hL')
  rw [hc] at H
  have h1 : (c != 0) = true := by rw [bne_iff_ne]; exact h0
  clear hL hL' hc h0
  go_enter Try.func9, Try.ntmps9
  go_wp2_with fail
  refine H.out.mono ?_
  rintro e w' ⟨rfl, rfl⟩
  go_wp2_with fail
  go_ret2
  exact ⟨_, _, rfl, Lz.nil, Below.refl _ _⟩

theorem Row.shape' {w : World} {R k : Nat} {v : Value} {l : List Int} (h : Row w R v l) (hk : l.length = k) : ∃ o cap, v = .slice o k cap ∧ ∀ j, j < k → ∃ g, o = some ⟨g, 0, none⟩ ∧ R ≤ g := by
  subst hk
  rcases h.cases with ⟨rfl, rfl⟩ | ⟨g, cap, rfl, hR, hg, hc⟩
  · exact ⟨none, 0, rfl, fun j hj => absurd hj (Nat.not_lt_zero _)⟩
  · exact ⟨_, cap, rfl, fun j hj => ⟨g, rfl, hR⟩⟩
theorem Row.cellAt {w : World} {R g k cap j : Nat} {l : List Int} {x : Int} (h : Row w R (.slice (some ⟨g, 0, none⟩) k cap) l) (hx : l[j]? = some x) : w.cell? ⟨g, j, none⟩ = some (.int .i64 x) := by
  rcases h.cases with ⟨h1, _⟩ | ⟨g', cap', h1, _, _, hc⟩
  · cases h1
  · obtain ⟨hj, hx⟩ := List.getElem?_eq_some_iff.1 hx
    cases h1
    rw [hc j hj, hx]
theorem Row.off {w : World} {R g k cap : Nat} {l : List Int} (h : Row w R (.slice (some ⟨g, 0, none⟩) k cap) l) : R ≤ g := by
  rcases h.cases with ⟨h1, _⟩ | ⟨g', cap', h1, h2, _, hc⟩
  · cases h1
  · cases h1; exact h2
theorem cnt_small (a : Nat → Nat) : ∀ i, cnt a i ≤ i
  | 0 => Nat.le_refl _
  | i + 1 => by
    have := cnt_small a i
    show (if a i = cnt a i then cnt a i + 1 else cnt a i) ≤ i + 1
    split <;> omega
def JOut (w : World) (n cap cap' : Nat) (o o' : Option Addr) (a b : Nat → Nat) (q : Nat) (V : World) : Prop :=
  ∃ p, JW w n cap cap' o o' V p ∧ Sound n a b p ∧ (1 ≤ q → Done a p n) ∧ (2 ≤ q → Done b p n)
def JIn (w : World) (n cap cap' : Nat) (o o' : Option Addr) (a b c : Nat → Nat) (q i : Nat) (v : Value) (V : World) : Prop :=
  ∃ p, JW w n cap cap' o o' V p ∧ Sound n a b p ∧ (1 ≤ q → Done a p n) ∧ Done c p i ∧ Row V (w.heap.size + 4) v ((lst c i).map fun (k : Nat) => (k : Int))

/-- A join comes back. -/
def JRes (n : Nat) (a b : Nat → Nat) (w : World) (e : Ending) (w' : World) : Prop := ∃ m, IsJoin n a b m ∧ PRes n (zf m) 0 w e w'
set_option maxRecDepth 100000 in
set_option maxHeartbeats 4000000 in
theorem join_good (n : Nat) (f g : Nat → Int) (hf : Good n f) (hg : Good n g) (o o' : Option Addr) (cap cap' : Nat) (w : World) (hL : Lz w o n f) (hL' : Lz w o' n g) : Calls Try.prog 9 #[.slice o n cap, .slice o' n cap'] w (JRes n (nat f) (nat g) w) := by
  have H := Lib.hid (pair_any n n f g o o' cap cap' w hL hL')
  rw [(pcd2_zero n f n g).2 ⟨hf, hg, rfl⟩] at H
  have hn := hf.1
  have hmk := fun w => run_vec n hn w
  obtain ⟨a, ha⟩ : ∃ a, nat f = a := ⟨_, rfl⟩
  obtain ⟨b, hb⟩ : ∃ b, nat g = b := ⟨_, rfl⟩
  rw [ha, hb]
  have HEa : Hid (∀ j, j < n → f j = ((a j : Nat) : Int)) := Lib.hid (fun j hj => by have h1 := hf.2.1 j hj; rw [← ha]; show f j = ((f j).toNat : Int); omega)
  have HEb : Hid (∀ j, j < n → g j = ((b j : Nat) : Int)) := Lib.hid (fun j hj => by have h1 := hg.2.1 j hj; rw [← hb]; show g j = ((g j).toNat : Int); omega)
  have HWa : Hid (Wf n a) := Lib.hid (ha ▸ hf.2.2)
  have HWb : Hid (Wf n b) := Lib.hid (hb ▸ hg.2.2)
  have HL := Lib.hid hL
  have HL' := Lib.hid hL'
  clear hL hL' hf hg ha hb
  go_enter Try.func9, Try.ntmps9
  go_wp2_with fail
  refine H.out.mono ?_
  rintro e w' ⟨rfl, rfl⟩
  go_wp2_with fail
  go_loopw [28] (fun j wr => ∃ i : Nat, i ≤ n ∧ j = .int .i64 (i : Int) ∧ Box wr w.heap.size (vec n (idf i)) 3 ∧ wr.cell? ⟨w.heap.size + 1, 0, none⟩ = some (.slice (some ⟨w.heap.size, 0, none⟩) n n) ∧ Below w.heap.size w wr ∧ wr.heap.size = w.heap.size + 2) (fun j _ => n - (intOf j).toNat)
  case atStart =>
    refine ⟨0, by omega, rfl, ?_, ?_, ?_, by simp⟩
    · exact (vec_congr (n := n) (f := fun _ => 0) (g := idf 0) (fun i _ => by simp [idf])) ▸ (Box.new w _ _).alloc _
    · exact Joins.cell_alloc_mark_at _ #[_] 22 (0, 0) _ 0 (by simp)
    · exact ((Below.refl _ _).alloc (Nat.le_refl _) _).alloc (by simp) _
  case round =>
    clear hmk
    obtain ⟨i, hi, rfl, hbox, hvar, hb, hsz⟩ := hrel
    have HB := Lib.hid hbox
    have HBe := Lib.hid hb
    have HS := Lib.hid hsz
    clear hbox hb hsz
    by_cases hlt : i < n
    · have hc := (HB.out.cell i).trans (vec_get _ hlt)
      have hfr := HB.out.open_ i
      have HV := Lib.hid hvar
      go_wp2_with fail
      go_roundw
      case rel => exact ⟨i + 1, by omega, by go_num, idf_step n i ▸ HB.out.setv i _, (World.cell?_setCell_other _ _ _ _ (by simp)).trans HV.out, HBe.out.setCell (by simp) _, by simpa using HS.out⟩
      case measure => simp [intOf]; omega
    · have e : i = n := by omega
      subst e
      have hp0 : JW w i cap cap' o o' ((wr.alloc (.cells #[.func (.func 21) #[] #[.pointer (some ⟨w.heap.size + 1, 0, none⟩)]] 48)).alloc (.cells #[.slice o i cap, .slice o' i cap'] 22)) (fun i => i) := by
        have hs := HS.out
        refine ⟨⟨?_, by omega, by simp; omega, ?_, low_id i⟩, ?_, ?_, ?_, ?_, ?_⟩
        · exact (World.cell?_alloc_lt _ _ _ (by simp; omega)).trans ((World.cell?_alloc_lt _ _ _ (by show w.heap.size + 1 < _; omega)).trans hvar)
        · exact (vec_congr (n := i) (f := idf i) (g := zf fun i => i) (fun j hj => by simp [idf, zf, hj])) ▸ (HB.out.alloc _).alloc _
        · exact (World.cell?_alloc_lt _ _ _ (by simp; omega)).trans (Joins.cell_alloc_mark_at _ #[_] 48 (0, 0) _ 0 (by omega))
        · exact Joins.cell_alloc_mark_at _ #[_, _] 22 (0, 0) _ 0 (by simp; omega)
        · exact Joins.cell_alloc_mark_at _ #[_, _] 22 (0, 0) _ 1 (by simp; omega)
        · exact (HBe.out.alloc (by omega) _).alloc (by simp; omega) _
        · simp; omega
      have HP0 := Lib.hid hp0
      clear hp0
      go_wp2_with fail
      rw [HS.out]
      rw [show w.heap.size + 2 + 1 = w.heap.size + 3 from rfl]
      obtain ⟨n, hn_⟩ : ∃ n, n = i := ⟨_, rfl⟩
      subst hn_
      clear hvar HB HBe hlt hi H
      have HS4 := HS
      clear HS
      go_loopw [41] (fun j wr => ∃ q : Nat, q ≤ 2 ∧ j = .int .i64 (q : Int) ∧ JOut w n cap cap' o o' a b q wr) (fun j _ => 2 - (intOf j).toNat)
      case atStart => exact ⟨0, by omega, rfl, _, HP0.out, sound_id _ _ _, fun h => absurd h (by omega), fun h => absurd h (by omega)⟩
      case round =>
        clear HP0 HS4
        obtain ⟨q, hq, rfl, p, hJ, hSo, hA, hB⟩ := hrel
        have hca := hJ.ca
        have hcb := hJ.cb
        have HJ := Lib.hid hJ
        have HSo := Lib.hid hSo
        have HA := Lib.hid hA
        have HB2 := Lib.hid hB
        clear hJ hSo hA hB
        by_cases hq2 : q < 2
        · obtain rfl | rfl : q = 0 ∨ q = 1 := by omega
          · skip
            rw [show ((0 : Nat) : Int) = 0 from rfl]
            go_wp2_with fail
            go_loopw [12, 47] (fun v j wr => ∃ i : Nat, i ≤ n ∧ j = .int .i64 (i : Int) ∧ JIn w n cap cap' o o' a b a 0 i v wr) (fun _ j _ => n - (intOf j).toNat)
            case atStart => exact ⟨0, by omega, rfl, p, HJ.out, HSo.out, fun h => absurd h (by omega), Done.zero _ _, Row.nil _ _⟩
            case round =>
              clear hca hcb HJ HSo HA HB2
              obtain ⟨i, hi, rfl, p, hJ, hSo, hA, hD, hR⟩ := hrel
              have HJ := Lib.hid hJ
              have HSo := Lib.hid hSo
              have HA := Lib.hid hA
              have HD := Lib.hid hD
              have HR := Lib.hid hR
              clear hJ hSo hA hD hR
              by_cases hlt : i < n
              · obtain ⟨k, hk⟩ : ∃ k, cnt a i = k := ⟨_, rfl⟩
                obtain ⟨x, hx⟩ : ∃ x, a i = x := ⟨_, rfl⟩
                have hxk : x ≤ k := by have h1 := HWa.out i hlt; omega
                have hki : k ≤ i := hk ▸ cnt_small a i
                obtain ⟨ov, cv, rfl, hov⟩ := HR.out.shape' (k := k) (by rw [List.length_map, lst_len]; exact hk)
                obtain ⟨bl, ofs, rfl, hbl, hcl⟩ := HL.out (by omega)
                have hcx := (HJ.out.kept.cell (p := ⟨bl, ofs + i, none⟩) hbl).trans (hcl i hlt)
                rw [HEa.out i hlt, hx] at hcx
                have hstep : cnt a (i + 1) = if x = k then k + 1 else k := by rw [← hx, ← hk]; rfl
                have hlst : lst a (i + 1) = if x = k then lst a i ++ [i] else lst a i := by rw [← hx, ← hk]; rfl
                have HX := Lib.hid hx
                have HKc := Lib.hid hk
                have HOv := Lib.hid hov
                clear hx hk hov hcl
                have hi1 : (i : Int) < (n : Int) := by omega
                by_cases hxe : x = k
                · rw [if_pos hxe] at hstep hlst
                  have HStep := Lib.hid hstep
                  have HLst := Lib.hid hlst
                  subst hxe
                  clear hstep hlst
                  go_wp2_with (at_builtin; refine app_int _ rfl _ _ rfl (w.heap.size + 4) _ _ rfl (HR.out.alloc _) wr.heap.size (i : Int) rfl (World.cell?_alloc_mark _ #[_] 3 (0, 0) 0) (by rw [List.length_map, lst_len, HKc.out]; omega) (by have h1 := HJ.out.size; simp; omega) ?_; intro gg cv2 w2 hr2 hbb2 hgg; rw [List.length_map, lst_len, HKc.out] at hr2 ⊢; have HR2 := Lib.hid hr2; have HBB := Lib.hid hbb2; clear hr2 hbb2)
                  have HSt : Hid (JSt w n cap cap' (some ⟨bl, ofs, none⟩) o' p (.slice (some ⟨gg, 0, none⟩) (x + 1) cv2) ((lst a (i + 1)).map fun (k : Nat) => (k : Int)) w2) := Lib.hid ⟨p, HJ.out.below (((Below.refl _ _).alloc HJ.out.size _).trans HBB.out), fun _ => rfl, by rw [HLst.out, List.map_append]; exact HR2.out⟩
                  have hfx := fst_of HWa.out hlt
                  rw [HX.out] at hfx
                  obtain ⟨z, hz⟩ : ∃ z, fst a i = z := ⟨_, rfl⟩
                  rw [hz] at hfx
                  have HZ1 := Lib.hid hz
                  clear hz
                  have hzn : z < n := by omega
                  have HFx := Lib.hid hfx
                  have hxm : (x : Int) < ((x + 1 : Nat) : Int) := by omega
                  have hxm2 : (x : Int) < (x + 1 : Int) := by omega
                  have hZ : ∀ V, JSt w n cap cap' (some ⟨bl, ofs, none⟩) o' p (.slice (some ⟨gg, 0, none⟩) (x + 1) cv2) ((lst a (i + 1)).map fun (k : Nat) => (k : Int)) V → JSt w n cap cap' (some ⟨bl, ofs, none⟩) o' p (.slice (some ⟨gg, 0, none⟩) (x + 1) cv2) ((lst a (i + 1)).map fun (k : Nat) => (k : Int)) V ∧ V.cell? ⟨w.heap.size + 2, 0, none⟩ = some (.func (.func 21) #[] #[.pointer (some ⟨w.heap.size + 1, 0, none⟩)]) ∧ V.cell? ⟨gg, x, none⟩ = some (.int .i64 ((z : Nat) : Int)) := by
                    intro V hV
                    refine ⟨hV, ?_⟩
                    obtain ⟨p', h1, _, h3⟩ := hV
                    exact ⟨h1.c2, h3.cellAt (by rw [List.getElem?_map, HFx.out.1]; rfl)⟩
                  have HZ := Lib.hid hZ
                  clear hZ hfx
                  have HZV := HZ.out _ HSt.out
                  obtain ⟨hs0, hs1, hs2⟩ := HZV
                  go_region_held3 (fun V => JSt w n cap cap' (some ⟨bl, ofs, none⟩) o' p (.slice (some ⟨gg, 0, none⟩) (x + 1) cv2) ((lst a (i + 1)).map fun (k : Nat) => (k : Int)) V ∧ V.cell? ⟨w.heap.size + 2, 0, none⟩ = some (.func (.func 21) #[] #[.pointer (some ⟨w.heap.size + 1, 0, none⟩)]) ∧ V.cell? ⟨gg, x, none⟩ = some (.int .i64 ((z : Nat) : Int))) (first | exact HZ.out _ (by assumption) | exact HZ.out _ (JSt.drew (by assumption))) (first | (go_at_call 21; refine (first_st hn (by omega) (by first | assumption | exact And.left (by assumption))).mono ?_; rintro e y ⟨rfl, hy⟩))
                  obtain ⟨p2, hJ2, hr2, hrow2⟩ := hy
                  have HJ2 := Lib.hid hJ2
                  have HRo := Lib.hid hr2
                  have HR3 := Lib.hid hrow2
                  have hv2 := hJ2.par.var
                  have HLow := Lib.hid hJ2.par.low
                  clear hJ2 hr2 hrow2 hs0 hs1 hs2 HZ HSt
                  obtain ⟨rx, hrx⟩ : ∃ rx, root p z = rx := ⟨_, rfl⟩
                  obtain ⟨ry, hry⟩ : ∃ ry, root p i = ry := ⟨_, rfl⟩
                  have lx : rx ≤ z := hrx ▸ root_le p z
                  have ly : ry ≤ i := hry ▸ root_le p i
                  rw [hrx, hry]
                  have HRx := Lib.hid ((HRo.out z).trans hrx)
                  have HRy := Lib.hid ((HRo.out i).trans hry)
                  clear hrx hry
                  have hbx : (rx : Int) < (n : Int) := by omega
                  have hby : (ry : Int) < (n : Int) := by omega
                  have cx := (HJ2.out.par.box.cell rx).trans (vec_get _ (show rx < n by omega))
                  have cy := (HJ2.out.par.box.cell ry).trans (vec_get _ (show ry < n by omega))
                  have fx := HJ2.out.par.box.open_ rx
                  have fy := HJ2.out.par.box.open_ ry
                  rcases Nat.lt_trichotomy rx ry with hle | hle | hle
                  · have hle' : (rx : Int) < (ry : Int) := by omega
                    have hmx : max (rx : Int) (ry : Int) = (ry : Int) := by omega
                    have hmn : min (rx : Int) (ry : Int) = (rx : Int) := by omega
                    go_wp2_with fail
                    go_roundw
                    case rel =>
                      have hu : uni p2 z i = upd p2 ry rx := by unfold uni; rw [HRx.out, HRy.out, Nat.max_eq_right (Nat.le_of_lt hle), Nat.min_eq_left (Nat.le_of_lt hle)]
                      exact ⟨i + 1, by omega, by go_num, _, HJ2.out.turn (hu ▸ HJ2.out.par.set (i := ry) (x := rx) (by omega)) ((Kept.refl _ _ _).set _ _), uni_sound (HSo.out.roots HRo.out) hzn hlt (Chain.one hlt (HFx.out.2.2.trans HX.out.symm)), fun h => absurd h (by omega), HZ1.out ▸ (HD.out.roots HRo.out).step, HR3.out.set (by omega) _⟩
                    case measure => simp [intOf]; omega
                  · subst hle
                    clear cy fy hby
                    have hmx : max (rx : Int) (rx : Int) = (rx : Int) := by omega
                    have hmn : min (rx : Int) (rx : Int) = (rx : Int) := by omega
                    go_wp2_with fail
                    go_roundw
                    case rel =>
                      have hu : uni p2 z i = upd p2 rx rx := by unfold uni; rw [HRx.out, HRy.out, Nat.max_self, Nat.min_self]
                      exact ⟨i + 1, by omega, by go_num, _, HJ2.out.turn (hu ▸ HJ2.out.par.set (i := rx) (x := rx) (by omega)) ((Kept.refl _ _ _).set _ _), uni_sound (HSo.out.roots HRo.out) hzn hlt (Chain.one hlt (HFx.out.2.2.trans HX.out.symm)), fun h => absurd h (by omega), HZ1.out ▸ (HD.out.roots HRo.out).step, HR3.out.set (by omega) _⟩
                    case measure => simp [intOf]; omega
                  · have hle' : (ry : Int) < (rx : Int) := by omega
                    have hmx : max (rx : Int) (ry : Int) = (rx : Int) := by omega
                    have hmn : min (rx : Int) (ry : Int) = (ry : Int) := by omega
                    go_wp2_with fail
                    go_roundw
                    case rel =>
                      have hu : uni p2 z i = upd p2 rx ry := by unfold uni; rw [HRx.out, HRy.out, Nat.max_eq_left (Nat.le_of_lt hle), Nat.min_eq_right (Nat.le_of_lt hle)]
                      exact ⟨i + 1, by omega, by go_num, _, HJ2.out.turn (hu ▸ HJ2.out.par.set (i := rx) (x := ry) (by omega)) ((Kept.refl _ _ _).set _ _), uni_sound (HSo.out.roots HRo.out) hzn hlt (Chain.one hlt (HFx.out.2.2.trans HX.out.symm)), fun h => absurd h (by omega), HZ1.out ▸ (HD.out.roots HRo.out).step, HR3.out.set (by omega) _⟩
                    case measure => simp [intOf]; omega
                · rw [if_neg hxe] at hstep hlst
                  have HStep := Lib.hid hstep
                  have HLst := Lib.hid hlst
                  have hb1 : ((x : Int) == (k : Int)) = false := by rw [beq_eq_false_iff_ne]; omega
                  have hb2 : (x == k) = false := by simpa using hxe
                  have hxk2 : x < k := by omega
                  clear hstep hlst hxe
                  obtain ⟨gg, rfl, hgg⟩ := HOv.out x hxk2
                  obtain ⟨cv2, rfl⟩ : ∃ cv2, cv2 = cv := ⟨_, rfl⟩
                  have HSt : Hid (JSt w n cap cap' (some ⟨bl, ofs, none⟩) o' p (.slice (some ⟨gg, 0, none⟩) k cv2) ((lst a (i + 1)).map fun (k : Nat) => (k : Int)) wr) := Lib.hid ⟨p, HJ.out, fun _ => rfl, HLst.out ▸ HR.out⟩
                  go_wp2_with fail
                  have hfx := fst_of HWa.out hlt
                  rw [HX.out] at hfx
                  obtain ⟨z, hz⟩ : ∃ z, fst a i = z := ⟨_, rfl⟩
                  rw [hz] at hfx
                  have HZ1 := Lib.hid hz
                  clear hz
                  have hzn : z < n := by omega
                  have HFx := Lib.hid hfx
                  have hxm : (x : Int) < ((k : Nat) : Int) := by omega
                  have hxm2 : (x : Int) < (k : Int) := by omega
                  have hZ : ∀ V, JSt w n cap cap' (some ⟨bl, ofs, none⟩) o' p (.slice (some ⟨gg, 0, none⟩) (k) cv2) ((lst a (i + 1)).map fun (k : Nat) => (k : Int)) V → JSt w n cap cap' (some ⟨bl, ofs, none⟩) o' p (.slice (some ⟨gg, 0, none⟩) (k) cv2) ((lst a (i + 1)).map fun (k : Nat) => (k : Int)) V ∧ V.cell? ⟨w.heap.size + 2, 0, none⟩ = some (.func (.func 21) #[] #[.pointer (some ⟨w.heap.size + 1, 0, none⟩)]) ∧ V.cell? ⟨gg, x, none⟩ = some (.int .i64 ((z : Nat) : Int)) := by
                    intro V hV
                    refine ⟨hV, ?_⟩
                    obtain ⟨p', h1, _, h3⟩ := hV
                    exact ⟨h1.c2, h3.cellAt (by rw [List.getElem?_map, HFx.out.1]; rfl)⟩
                  have HZ := Lib.hid hZ
                  clear hZ hfx
                  have HZV := HZ.out _ HSt.out
                  obtain ⟨hs0, hs1, hs2⟩ := HZV
                  go_region_held3 (fun V => JSt w n cap cap' (some ⟨bl, ofs, none⟩) o' p (.slice (some ⟨gg, 0, none⟩) (k) cv2) ((lst a (i + 1)).map fun (k : Nat) => (k : Int)) V ∧ V.cell? ⟨w.heap.size + 2, 0, none⟩ = some (.func (.func 21) #[] #[.pointer (some ⟨w.heap.size + 1, 0, none⟩)]) ∧ V.cell? ⟨gg, x, none⟩ = some (.int .i64 ((z : Nat) : Int))) (first | exact HZ.out _ (by assumption) | exact HZ.out _ (JSt.drew (by assumption))) (first | (go_at_call 21; refine (first_st hn (by omega) (by first | assumption | exact And.left (by assumption))).mono ?_; rintro e y ⟨rfl, hy⟩))
                  obtain ⟨p2, hJ2, hr2, hrow2⟩ := hy
                  have HJ2 := Lib.hid hJ2
                  have HRo := Lib.hid hr2
                  have HR3 := Lib.hid hrow2
                  have hv2 := hJ2.par.var
                  have HLow := Lib.hid hJ2.par.low
                  clear hJ2 hr2 hrow2 hs0 hs1 hs2 HZ HSt
                  obtain ⟨rx, hrx⟩ : ∃ rx, root p z = rx := ⟨_, rfl⟩
                  obtain ⟨ry, hry⟩ : ∃ ry, root p i = ry := ⟨_, rfl⟩
                  have lx : rx ≤ z := hrx ▸ root_le p z
                  have ly : ry ≤ i := hry ▸ root_le p i
                  rw [hrx, hry]
                  have HRx := Lib.hid ((HRo.out z).trans hrx)
                  have HRy := Lib.hid ((HRo.out i).trans hry)
                  clear hrx hry
                  have hbx : (rx : Int) < (n : Int) := by omega
                  have hby : (ry : Int) < (n : Int) := by omega
                  have cx := (HJ2.out.par.box.cell rx).trans (vec_get _ (show rx < n by omega))
                  have cy := (HJ2.out.par.box.cell ry).trans (vec_get _ (show ry < n by omega))
                  have fx := HJ2.out.par.box.open_ rx
                  have fy := HJ2.out.par.box.open_ ry
                  rcases Nat.lt_trichotomy rx ry with hle | hle | hle
                  · have hle' : (rx : Int) < (ry : Int) := by omega
                    have hmx : max (rx : Int) (ry : Int) = (ry : Int) := by omega
                    have hmn : min (rx : Int) (ry : Int) = (rx : Int) := by omega
                    go_wp2_with fail
                    go_roundw
                    case rel =>
                      have hu : uni p2 z i = upd p2 ry rx := by unfold uni; rw [HRx.out, HRy.out, Nat.max_eq_right (Nat.le_of_lt hle), Nat.min_eq_left (Nat.le_of_lt hle)]
                      exact ⟨i + 1, by omega, by go_num, _, HJ2.out.turn (hu ▸ HJ2.out.par.set (i := ry) (x := rx) (by omega)) ((Kept.refl _ _ _).set _ _), uni_sound (HSo.out.roots HRo.out) hzn hlt (Chain.one hlt (HFx.out.2.2.trans HX.out.symm)), fun h => absurd h (by omega), HZ1.out ▸ (HD.out.roots HRo.out).step, HR3.out.set (by omega) _⟩
                    case measure => simp [intOf]; omega
                  · subst hle
                    clear cy fy hby
                    have hmx : max (rx : Int) (rx : Int) = (rx : Int) := by omega
                    have hmn : min (rx : Int) (rx : Int) = (rx : Int) := by omega
                    go_wp2_with fail
                    go_roundw
                    case rel =>
                      have hu : uni p2 z i = upd p2 rx rx := by unfold uni; rw [HRx.out, HRy.out, Nat.max_self, Nat.min_self]
                      exact ⟨i + 1, by omega, by go_num, _, HJ2.out.turn (hu ▸ HJ2.out.par.set (i := rx) (x := rx) (by omega)) ((Kept.refl _ _ _).set _ _), uni_sound (HSo.out.roots HRo.out) hzn hlt (Chain.one hlt (HFx.out.2.2.trans HX.out.symm)), fun h => absurd h (by omega), HZ1.out ▸ (HD.out.roots HRo.out).step, HR3.out.set (by omega) _⟩
                    case measure => simp [intOf]; omega
                  · have hle' : (ry : Int) < (rx : Int) := by omega
                    have hmx : max (rx : Int) (ry : Int) = (rx : Int) := by omega
                    have hmn : min (rx : Int) (ry : Int) = (ry : Int) := by omega
                    go_wp2_with fail
                    go_roundw
                    case rel =>
                      have hu : uni p2 z i = upd p2 rx ry := by unfold uni; rw [HRx.out, HRy.out, Nat.max_eq_left (Nat.le_of_lt hle), Nat.min_eq_right (Nat.le_of_lt hle)]
                      exact ⟨i + 1, by omega, by go_num, _, HJ2.out.turn (hu ▸ HJ2.out.par.set (i := rx) (x := ry) (by omega)) ((Kept.refl _ _ _).set _ _), uni_sound (HSo.out.roots HRo.out) hzn hlt (Chain.one hlt (HFx.out.2.2.trans HX.out.symm)), fun h => absurd h (by omega), HZ1.out ▸ (HD.out.roots HRo.out).step, HR3.out.set (by omega) _⟩
                    case measure => simp [intOf]; omega
              · have e : i = n := by omega
                subst e
                clear hlt
                go_wp2_with fail
                go_roundw
                case rel => exact ⟨1, by omega, rfl, p, HJ.out, HSo.out, fun _ => HD.out, fun h => absurd h (by omega)⟩
                case measure => simp [intOf]
          · skip
            rw [show ((1 : Nat) : Int) = 1 from rfl]
            go_wp2_with fail
            go_loopw [12, 47] (fun v j wr => ∃ i : Nat, i ≤ n ∧ j = .int .i64 (i : Int) ∧ JIn w n cap cap' o o' a b b 1 i v wr) (fun _ j _ => n - (intOf j).toNat)
            case atStart => exact ⟨0, by omega, rfl, p, HJ.out, HSo.out, HA.out, Done.zero _ _, Row.nil _ _⟩
            case round =>
              clear hca hcb HJ HSo HA HB2
              obtain ⟨i, hi, rfl, p, hJ, hSo, hA, hD, hR⟩ := hrel
              have HJ := Lib.hid hJ
              have HSo := Lib.hid hSo
              have HA := Lib.hid hA
              have HD := Lib.hid hD
              have HR := Lib.hid hR
              clear hJ hSo hA hD hR
              by_cases hlt : i < n
              · obtain ⟨k, hk⟩ : ∃ k, cnt b i = k := ⟨_, rfl⟩
                obtain ⟨x, hx⟩ : ∃ x, b i = x := ⟨_, rfl⟩
                have hxk : x ≤ k := by have h1 := HWb.out i hlt; omega
                have hki : k ≤ i := hk ▸ cnt_small b i
                obtain ⟨ov, cv, rfl, hov⟩ := HR.out.shape' (k := k) (by rw [List.length_map, lst_len]; exact hk)
                obtain ⟨bl, ofs, rfl, hbl, hcl⟩ := HL'.out (by omega)
                have hcx := (HJ.out.kept.cell (p := ⟨bl, ofs + i, none⟩) hbl).trans (hcl i hlt)
                rw [HEb.out i hlt, hx] at hcx
                have hstep : cnt b (i + 1) = if x = k then k + 1 else k := by rw [← hx, ← hk]; rfl
                have hlst : lst b (i + 1) = if x = k then lst b i ++ [i] else lst b i := by rw [← hx, ← hk]; rfl
                have HX := Lib.hid hx
                have HKc := Lib.hid hk
                have HOv := Lib.hid hov
                clear hx hk hov hcl
                have hi1 : (i : Int) < (n : Int) := by omega
                by_cases hxe : x = k
                · rw [if_pos hxe] at hstep hlst
                  have HStep := Lib.hid hstep
                  have HLst := Lib.hid hlst
                  subst hxe
                  clear hstep hlst
                  go_wp2_with (at_builtin; refine app_int _ rfl _ _ rfl (w.heap.size + 4) _ _ rfl (HR.out.alloc _) wr.heap.size (i : Int) rfl (World.cell?_alloc_mark _ #[_] 3 (0, 0) 0) (by rw [List.length_map, lst_len, HKc.out]; omega) (by have h1 := HJ.out.size; simp; omega) ?_; intro gg cv2 w2 hr2 hbb2 hgg; rw [List.length_map, lst_len, HKc.out] at hr2 ⊢; have HR2 := Lib.hid hr2; have HBB := Lib.hid hbb2; clear hr2 hbb2)
                  have HSt : Hid (JSt w n cap cap' o (some ⟨bl, ofs, none⟩) p (.slice (some ⟨gg, 0, none⟩) (x + 1) cv2) ((lst b (i + 1)).map fun (k : Nat) => (k : Int)) w2) := Lib.hid ⟨p, HJ.out.below (((Below.refl _ _).alloc HJ.out.size _).trans HBB.out), fun _ => rfl, by rw [HLst.out, List.map_append]; exact HR2.out⟩
                  have hfx := fst_of HWb.out hlt
                  rw [HX.out] at hfx
                  obtain ⟨z, hz⟩ : ∃ z, fst b i = z := ⟨_, rfl⟩
                  rw [hz] at hfx
                  have HZ1 := Lib.hid hz
                  clear hz
                  have hzn : z < n := by omega
                  have HFx := Lib.hid hfx
                  have hxm : (x : Int) < ((x + 1 : Nat) : Int) := by omega
                  have hxm2 : (x : Int) < (x + 1 : Int) := by omega
                  have hZ : ∀ V, JSt w n cap cap' o (some ⟨bl, ofs, none⟩) p (.slice (some ⟨gg, 0, none⟩) (x + 1) cv2) ((lst b (i + 1)).map fun (k : Nat) => (k : Int)) V → JSt w n cap cap' o (some ⟨bl, ofs, none⟩) p (.slice (some ⟨gg, 0, none⟩) (x + 1) cv2) ((lst b (i + 1)).map fun (k : Nat) => (k : Int)) V ∧ V.cell? ⟨w.heap.size + 2, 0, none⟩ = some (.func (.func 21) #[] #[.pointer (some ⟨w.heap.size + 1, 0, none⟩)]) ∧ V.cell? ⟨gg, x, none⟩ = some (.int .i64 ((z : Nat) : Int)) := by
                    intro V hV
                    refine ⟨hV, ?_⟩
                    obtain ⟨p', h1, _, h3⟩ := hV
                    exact ⟨h1.c2, h3.cellAt (by rw [List.getElem?_map, HFx.out.1]; rfl)⟩
                  have HZ := Lib.hid hZ
                  clear hZ hfx
                  have HZV := HZ.out _ HSt.out
                  obtain ⟨hs0, hs1, hs2⟩ := HZV
                  go_region_held3 (fun V => JSt w n cap cap' o (some ⟨bl, ofs, none⟩) p (.slice (some ⟨gg, 0, none⟩) (x + 1) cv2) ((lst b (i + 1)).map fun (k : Nat) => (k : Int)) V ∧ V.cell? ⟨w.heap.size + 2, 0, none⟩ = some (.func (.func 21) #[] #[.pointer (some ⟨w.heap.size + 1, 0, none⟩)]) ∧ V.cell? ⟨gg, x, none⟩ = some (.int .i64 ((z : Nat) : Int))) (first | exact HZ.out _ (by assumption) | exact HZ.out _ (JSt.drew (by assumption))) (first | (go_at_call 21; refine (first_st hn (by omega) (by first | assumption | exact And.left (by assumption))).mono ?_; rintro e y ⟨rfl, hy⟩))
                  obtain ⟨p2, hJ2, hr2, hrow2⟩ := hy
                  have HJ2 := Lib.hid hJ2
                  have HRo := Lib.hid hr2
                  have HR3 := Lib.hid hrow2
                  have hv2 := hJ2.par.var
                  have HLow := Lib.hid hJ2.par.low
                  clear hJ2 hr2 hrow2 hs0 hs1 hs2 HZ HSt
                  obtain ⟨rx, hrx⟩ : ∃ rx, root p z = rx := ⟨_, rfl⟩
                  obtain ⟨ry, hry⟩ : ∃ ry, root p i = ry := ⟨_, rfl⟩
                  have lx : rx ≤ z := hrx ▸ root_le p z
                  have ly : ry ≤ i := hry ▸ root_le p i
                  rw [hrx, hry]
                  have HRx := Lib.hid ((HRo.out z).trans hrx)
                  have HRy := Lib.hid ((HRo.out i).trans hry)
                  clear hrx hry
                  have hbx : (rx : Int) < (n : Int) := by omega
                  have hby : (ry : Int) < (n : Int) := by omega
                  have cx := (HJ2.out.par.box.cell rx).trans (vec_get _ (show rx < n by omega))
                  have cy := (HJ2.out.par.box.cell ry).trans (vec_get _ (show ry < n by omega))
                  have fx := HJ2.out.par.box.open_ rx
                  have fy := HJ2.out.par.box.open_ ry
                  rcases Nat.lt_trichotomy rx ry with hle | hle | hle
                  · have hle' : (rx : Int) < (ry : Int) := by omega
                    have hmx : max (rx : Int) (ry : Int) = (ry : Int) := by omega
                    have hmn : min (rx : Int) (ry : Int) = (rx : Int) := by omega
                    go_wp2_with fail
                    go_roundw
                    case rel =>
                      have hu : uni p2 z i = upd p2 ry rx := by unfold uni; rw [HRx.out, HRy.out, Nat.max_eq_right (Nat.le_of_lt hle), Nat.min_eq_left (Nat.le_of_lt hle)]
                      exact ⟨i + 1, by omega, by go_num, _, HJ2.out.turn (hu ▸ HJ2.out.par.set (i := ry) (x := rx) (by omega)) ((Kept.refl _ _ _).set _ _), uni_sound (HSo.out.roots HRo.out) hzn hlt (Chain.two hlt (HFx.out.2.2.trans HX.out.symm)), fun h => ((HA.out h).roots HRo.out).keeps z i, HZ1.out ▸ (HD.out.roots HRo.out).step, HR3.out.set (by omega) _⟩
                    case measure => simp [intOf]; omega
                  · subst hle
                    clear cy fy hby
                    have hmx : max (rx : Int) (rx : Int) = (rx : Int) := by omega
                    have hmn : min (rx : Int) (rx : Int) = (rx : Int) := by omega
                    go_wp2_with fail
                    go_roundw
                    case rel =>
                      have hu : uni p2 z i = upd p2 rx rx := by unfold uni; rw [HRx.out, HRy.out, Nat.max_self, Nat.min_self]
                      exact ⟨i + 1, by omega, by go_num, _, HJ2.out.turn (hu ▸ HJ2.out.par.set (i := rx) (x := rx) (by omega)) ((Kept.refl _ _ _).set _ _), uni_sound (HSo.out.roots HRo.out) hzn hlt (Chain.two hlt (HFx.out.2.2.trans HX.out.symm)), fun h => ((HA.out h).roots HRo.out).keeps z i, HZ1.out ▸ (HD.out.roots HRo.out).step, HR3.out.set (by omega) _⟩
                    case measure => simp [intOf]; omega
                  · have hle' : (ry : Int) < (rx : Int) := by omega
                    have hmx : max (rx : Int) (ry : Int) = (rx : Int) := by omega
                    have hmn : min (rx : Int) (ry : Int) = (ry : Int) := by omega
                    go_wp2_with fail
                    go_roundw
                    case rel =>
                      have hu : uni p2 z i = upd p2 rx ry := by unfold uni; rw [HRx.out, HRy.out, Nat.max_eq_left (Nat.le_of_lt hle), Nat.min_eq_right (Nat.le_of_lt hle)]
                      exact ⟨i + 1, by omega, by go_num, _, HJ2.out.turn (hu ▸ HJ2.out.par.set (i := rx) (x := ry) (by omega)) ((Kept.refl _ _ _).set _ _), uni_sound (HSo.out.roots HRo.out) hzn hlt (Chain.two hlt (HFx.out.2.2.trans HX.out.symm)), fun h => ((HA.out h).roots HRo.out).keeps z i, HZ1.out ▸ (HD.out.roots HRo.out).step, HR3.out.set (by omega) _⟩
                    case measure => simp [intOf]; omega
                · rw [if_neg hxe] at hstep hlst
                  have HStep := Lib.hid hstep
                  have HLst := Lib.hid hlst
                  have hb1 : ((x : Int) == (k : Int)) = false := by rw [beq_eq_false_iff_ne]; omega
                  have hb2 : (x == k) = false := by simpa using hxe
                  have hxk2 : x < k := by omega
                  clear hstep hlst hxe
                  obtain ⟨gg, rfl, hgg⟩ := HOv.out x hxk2
                  obtain ⟨cv2, rfl⟩ : ∃ cv2, cv2 = cv := ⟨_, rfl⟩
                  have HSt : Hid (JSt w n cap cap' o (some ⟨bl, ofs, none⟩) p (.slice (some ⟨gg, 0, none⟩) k cv2) ((lst b (i + 1)).map fun (k : Nat) => (k : Int)) wr) := Lib.hid ⟨p, HJ.out, fun _ => rfl, HLst.out ▸ HR.out⟩
                  go_wp2_with fail
                  have hfx := fst_of HWb.out hlt
                  rw [HX.out] at hfx
                  obtain ⟨z, hz⟩ : ∃ z, fst b i = z := ⟨_, rfl⟩
                  rw [hz] at hfx
                  have HZ1 := Lib.hid hz
                  clear hz
                  have hzn : z < n := by omega
                  have HFx := Lib.hid hfx
                  have hxm : (x : Int) < ((k : Nat) : Int) := by omega
                  have hxm2 : (x : Int) < (k : Int) := by omega
                  have hZ : ∀ V, JSt w n cap cap' o (some ⟨bl, ofs, none⟩) p (.slice (some ⟨gg, 0, none⟩) (k) cv2) ((lst b (i + 1)).map fun (k : Nat) => (k : Int)) V → JSt w n cap cap' o (some ⟨bl, ofs, none⟩) p (.slice (some ⟨gg, 0, none⟩) (k) cv2) ((lst b (i + 1)).map fun (k : Nat) => (k : Int)) V ∧ V.cell? ⟨w.heap.size + 2, 0, none⟩ = some (.func (.func 21) #[] #[.pointer (some ⟨w.heap.size + 1, 0, none⟩)]) ∧ V.cell? ⟨gg, x, none⟩ = some (.int .i64 ((z : Nat) : Int)) := by
                    intro V hV
                    refine ⟨hV, ?_⟩
                    obtain ⟨p', h1, _, h3⟩ := hV
                    exact ⟨h1.c2, h3.cellAt (by rw [List.getElem?_map, HFx.out.1]; rfl)⟩
                  have HZ := Lib.hid hZ
                  clear hZ hfx
                  have HZV := HZ.out _ HSt.out
                  obtain ⟨hs0, hs1, hs2⟩ := HZV
                  go_region_held3 (fun V => JSt w n cap cap' o (some ⟨bl, ofs, none⟩) p (.slice (some ⟨gg, 0, none⟩) (k) cv2) ((lst b (i + 1)).map fun (k : Nat) => (k : Int)) V ∧ V.cell? ⟨w.heap.size + 2, 0, none⟩ = some (.func (.func 21) #[] #[.pointer (some ⟨w.heap.size + 1, 0, none⟩)]) ∧ V.cell? ⟨gg, x, none⟩ = some (.int .i64 ((z : Nat) : Int))) (first | exact HZ.out _ (by assumption) | exact HZ.out _ (JSt.drew (by assumption))) (first | (go_at_call 21; refine (first_st hn (by omega) (by first | assumption | exact And.left (by assumption))).mono ?_; rintro e y ⟨rfl, hy⟩))
                  obtain ⟨p2, hJ2, hr2, hrow2⟩ := hy
                  have HJ2 := Lib.hid hJ2
                  have HRo := Lib.hid hr2
                  have HR3 := Lib.hid hrow2
                  have hv2 := hJ2.par.var
                  have HLow := Lib.hid hJ2.par.low
                  clear hJ2 hr2 hrow2 hs0 hs1 hs2 HZ HSt
                  obtain ⟨rx, hrx⟩ : ∃ rx, root p z = rx := ⟨_, rfl⟩
                  obtain ⟨ry, hry⟩ : ∃ ry, root p i = ry := ⟨_, rfl⟩
                  have lx : rx ≤ z := hrx ▸ root_le p z
                  have ly : ry ≤ i := hry ▸ root_le p i
                  rw [hrx, hry]
                  have HRx := Lib.hid ((HRo.out z).trans hrx)
                  have HRy := Lib.hid ((HRo.out i).trans hry)
                  clear hrx hry
                  have hbx : (rx : Int) < (n : Int) := by omega
                  have hby : (ry : Int) < (n : Int) := by omega
                  have cx := (HJ2.out.par.box.cell rx).trans (vec_get _ (show rx < n by omega))
                  have cy := (HJ2.out.par.box.cell ry).trans (vec_get _ (show ry < n by omega))
                  have fx := HJ2.out.par.box.open_ rx
                  have fy := HJ2.out.par.box.open_ ry
                  rcases Nat.lt_trichotomy rx ry with hle | hle | hle
                  · have hle' : (rx : Int) < (ry : Int) := by omega
                    have hmx : max (rx : Int) (ry : Int) = (ry : Int) := by omega
                    have hmn : min (rx : Int) (ry : Int) = (rx : Int) := by omega
                    go_wp2_with fail
                    go_roundw
                    case rel =>
                      have hu : uni p2 z i = upd p2 ry rx := by unfold uni; rw [HRx.out, HRy.out, Nat.max_eq_right (Nat.le_of_lt hle), Nat.min_eq_left (Nat.le_of_lt hle)]
                      exact ⟨i + 1, by omega, by go_num, _, HJ2.out.turn (hu ▸ HJ2.out.par.set (i := ry) (x := rx) (by omega)) ((Kept.refl _ _ _).set _ _), uni_sound (HSo.out.roots HRo.out) hzn hlt (Chain.two hlt (HFx.out.2.2.trans HX.out.symm)), fun h => ((HA.out h).roots HRo.out).keeps z i, HZ1.out ▸ (HD.out.roots HRo.out).step, HR3.out.set (by omega) _⟩
                    case measure => simp [intOf]; omega
                  · subst hle
                    clear cy fy hby
                    have hmx : max (rx : Int) (rx : Int) = (rx : Int) := by omega
                    have hmn : min (rx : Int) (rx : Int) = (rx : Int) := by omega
                    go_wp2_with fail
                    go_roundw
                    case rel =>
                      have hu : uni p2 z i = upd p2 rx rx := by unfold uni; rw [HRx.out, HRy.out, Nat.max_self, Nat.min_self]
                      exact ⟨i + 1, by omega, by go_num, _, HJ2.out.turn (hu ▸ HJ2.out.par.set (i := rx) (x := rx) (by omega)) ((Kept.refl _ _ _).set _ _), uni_sound (HSo.out.roots HRo.out) hzn hlt (Chain.two hlt (HFx.out.2.2.trans HX.out.symm)), fun h => ((HA.out h).roots HRo.out).keeps z i, HZ1.out ▸ (HD.out.roots HRo.out).step, HR3.out.set (by omega) _⟩
                    case measure => simp [intOf]; omega
                  · have hle' : (ry : Int) < (rx : Int) := by omega
                    have hmx : max (rx : Int) (ry : Int) = (rx : Int) := by omega
                    have hmn : min (rx : Int) (ry : Int) = (ry : Int) := by omega
                    go_wp2_with fail
                    go_roundw
                    case rel =>
                      have hu : uni p2 z i = upd p2 rx ry := by unfold uni; rw [HRx.out, HRy.out, Nat.max_eq_left (Nat.le_of_lt hle), Nat.min_eq_right (Nat.le_of_lt hle)]
                      exact ⟨i + 1, by omega, by go_num, _, HJ2.out.turn (hu ▸ HJ2.out.par.set (i := rx) (x := ry) (by omega)) ((Kept.refl _ _ _).set _ _), uni_sound (HSo.out.roots HRo.out) hzn hlt (Chain.two hlt (HFx.out.2.2.trans HX.out.symm)), fun h => ((HA.out h).roots HRo.out).keeps z i, HZ1.out ▸ (HD.out.roots HRo.out).step, HR3.out.set (by omega) _⟩
                    case measure => simp [intOf]; omega
              · have e : i = n := by omega
                subst e
                clear hlt
                go_wp2_with fail
                go_roundw
                case rel => exact ⟨2, by omega, rfl, p, HJ.out, HSo.out, fun _ => HA.out (Nat.le_refl 1), fun _ => HD.out⟩
                case measure => simp [intOf]
        · have e : q = 2 := by omega
          subst e
          rw [show ((2 : Nat) : Int) = 2 from rfl]
          clear hca hcb hq2
          go_wp2_with fail
          refine (labels_join n hn (.pointer (some ⟨w.heap.size + 2, 0, none⟩)) (fun i => (((root p i : Nat) : Int), (0 : Int))) (fun i hi => ⟨by have := root_le p i; unfold In64; omega, by unfold In64; omega⟩) (some w.heap.size) (fun V => ∃ p', JW w n cap cap' o o' V p' ∧ ∀ j, root p' j = root p j) _ (fun k e => by have h1 := Option.some.inj e; have h2 := HJ.out.size; omega)
            (fun W W' hI _ hb => by obtain ⟨p', h1, h2⟩ := hI; exact ⟨p', h1.below (hb.mono HJ.out.size), h2⟩) ⟨p, HJ.out, fun _ => rfl⟩
            (fun i W hi hI hs => by
              obtain ⟨p', h1, h2⟩ := hI
              refine (join2_ok n hn p' (w.heap.size + 1) w.heap.size (w.heap.size + 2) i hi W h1.par (by omega) (by have := h1.size; omega) h1.c2).mono ?_
              rintro e V' ⟨rfl, ⟨p2, h3, h4⟩, h5⟩
              exact ⟨by rw [h2], ⟨p2, h1.turn h3 (h5.le h1.size), fun j => (h4 j).trans (h2 j)⟩, h5⟩)).mono ?_
          rintro e V ⟨bb, rfl, _, hBx, ⟨p2, hJ2, _⟩, _⟩
          have HBx := Lib.hid hBx
          have HK2 := Lib.hid hJ2.kept
          clear hBx hJ2
          go_wp2_with fail
          go_ret2
          exact ⟨_, join_done HWa.out HWb.out HSo.out (HA.out (by omega)) (HB2.out (by omega)), _, _, rfl, HBx.out.lz, HK2.out⟩
end Go.Proofs.Ytokjdlljhloflaa
