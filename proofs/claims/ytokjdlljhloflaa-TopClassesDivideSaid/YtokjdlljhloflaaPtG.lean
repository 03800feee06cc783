/- Package partition: the roots of Join. -/
import Derived.Test.YtokjdlljhloflaaPtF
import Derived.WalkKit
import Derived.WalkSpells
import Derived.WalkLawsBesides
import Derived.Handy
import Derived.Deep.QuietTactic
import Derived.BigQuiet
import Derived.Outline
import Derived.Laws.BitsAllLaws
import Derived.IntWalk
import Derived.Lib.SmallJoins
import Derived.Lib.Hide
import Derived.Deep.DeepCutAuto
import Derived.LoopTactic
import Derived.Deep.RegionWith
namespace Go.Proofs.Ytokjdlljhloflaa
set_option linter.unusedVariables false
set_option linter.unusedSimpArgs false
open Go.RowKit Part

theorem Kept.drew {pb : Option Nat} {B : Nat} {a w : World} (h : Kept pb B a w) : Kept pb B a w.drew := ⟨h.os, h.tape, h.output, h.size, h.block⟩
theorem Kept.set {pb : Nat} {B : Nat} {a w : World} (h : Kept (some pb) B a w) (i : Nat) (v : Value) : Kept (some pb) B a (w.setCell ⟨pb, i, none⟩ v) :=
  h.trans ⟨rfl, rfl, rfl, by simp, fun k hk hn => Below.heap_setCell _ _ _ _ (fun e => hn (by rw [e]))⟩
/-- The integers of a function of numbers. -/
def zf (p : Nat → Nat) : Nat → Int := fun i => (p i : Int)
/-- The parents lie in block pb, behind the variable in block k. -/
structure Par (w : World) (k pb n : Nat) (p : Nat → Nat) : Prop where
  var : w.cell? ⟨k, 0, none⟩ = some (.slice (some ⟨pb, 0, none⟩) n n)
  ne : k ≠ pb
  lt : k < w.heap.size
  box : Box w pb (vec n (zf p)) 3
  low : Low n p
theorem zf_upd (p : Nat → Nat) (i x : Nat) : updz (zf p) i (x : Int) = zf (upd p i x) := by
  funext j
  unfold updz zf upd
  split <;> rfl
theorem Par.set {w : World} {k pb n : Nat} {p : Nat → Nat} (h : Par w k pb n p) {i x : Nat} (hx : x ≤ i) : Par (w.setCell ⟨pb, i, none⟩ (.int .i64 (x : Int))) k pb n (upd p i x) :=
  ⟨(World.cell?_setCell_other w ⟨pb, i, none⟩ ⟨k, 0, none⟩ _ (fun e => h.ne (congrArg Addr.block e).symm)).trans h.var, h.ne, by simpa using h.lt, zf_upd p i x ▸ h.box.setv i _, upd_low h.low hx⟩
theorem Par.drew {w : World} {k pb n : Nat} {p : Nat → Nat} (h : Par w k pb n p) : Par w.drew k pb n p := ⟨h.var, h.ne, h.lt, h.box, h.low⟩
theorem Par.below {w w' : World} {k pb n B : Nat} {p : Nat → Nat} (h : Par w k pb n p) (hb : Below B w w') (hk : k < B) (hp : pb < B) : Par w' k pb n p :=
  ⟨(hb.cell (p := ⟨k, 0, none⟩) hk).trans h.var, h.ne, Nat.lt_of_lt_of_le h.lt hb.size, h.box.below hb hp, h.low⟩

def FRes (n : Nat) (p0 : Nat → Nat) (k pb i : Nat) (w : World) (e : Ending) (w' : World) : Prop :=
  ∃ p, e = .returned (.int .i64 ((root p0 i : Nat) : Int)) ∧ Par w' k pb n p ∧ (∀ j, root p j = root p0 j) ∧ Kept (some pb) w.heap.size w w'

set_option maxRecDepth 100000 in
set_option maxHeartbeats 4000000 in
theorem first_ok (n : Nat) (hn : n ≤ 65536) (p0 : Nat → Nat) (k pb i0 : Nat) (hi0 : i0 < n) (w : World) (h : Par w k pb n p0) : Calls Try.prog 21 #[.int .i64 (i0 : Int), .pointer (some ⟨k, 0, none⟩)] w (FRes n p0 k pb i0 w) := by
  have H := Lib.hid h
  clear h
  go_enter Try.func21, Try.ntmps21
  go_wp2_with fail
  go_loopw [0] (fun j wr => ∃ (i : Nat) (p : Nat → Nat), i < n ∧ j = .int .i64 (i : Int) ∧ Par wr k pb n p ∧ (∀ j, root p j = root p0 j) ∧ root p i = root p0 i0 ∧ Kept (some pb) w.heap.size w wr) (fun j _ => (intOf j).toNat)
  case atStart => exact ⟨i0, p0, hi0, rfl, H.out, fun _ => rfl, rfl, Kept.refl _ _ _⟩
  case round =>
    obtain ⟨i, p, hi, rfl, hpar, hroot, hri, hk⟩ := hrel
    have hvar := hpar.var
    have hci : wr.cell? ⟨pb, i, none⟩ = some (.int .i64 ((p i : Nat) : Int)) := (hpar.box.cell i).trans (vec_get _ hi)
    have hlow := hpar.low i hi
    have hi' : (i : Int) < (n : Int) := by omega
    have HPar := Lib.hid hpar
    have HRo := Lib.hid hroot
    have HRi := Lib.hid hri
    have HK := Lib.hid hk
    have Hlow := Lib.hid hpar.low
    clear hpar hroot hri hk
    obtain ⟨q, hq⟩ : ∃ q, p i = q := ⟨_, rfl⟩
    rw [hq] at hci hlow
    have HQ := Lib.hid hq
    clear hq
    by_cases hqi : q = i
    · have hb : (((q : Nat) : Int) != ((i : Nat) : Int)) = false := by rw [bne_eq_false_iff_eq]; omega
      have hb2 : (q == i) = true := by simpa using hqi
      have hres : root p i = i := root_top p (by have := HQ.out; omega)
      have HRes := Lib.hid hres
      clear hres hqi hlow
      go_wp2_with fail
      go_ret
      exact ⟨p, by rw [← HRi.out, HRes.out]; rfl, HPar.out, HRo.out, HK.out⟩
    · have hb : (((q : Nat) : Int) != ((i : Nat) : Int)) = true := by rw [bne_iff_ne]; omega
      have hb2 : (q == i) = false := by simpa using hqi
      have hqn : q < n := by omega
      have hq' : (q : Int) < (n : Int) := by omega
      have hcq : wr.cell? ⟨pb, q, none⟩ = some (.int .i64 ((p q : Nat) : Int)) := (HPar.out.box.cell q).trans (vec_get _ hqn)
      have hlq := Hlow.out q hqn
      obtain ⟨r, hr⟩ : ∃ r, p q = r := ⟨_, rfl⟩
      rw [hr] at hcq hlq
      have HR := Lib.hid hr
      clear hr
      have hfi : wr.frozen? ⟨pb, i, none⟩ = false := HPar.out.box.open_ i
      have hqlt : q < i := by omega
      clear hqi
      go_wp2_with fail
      go_region
      have hrq : root p i = root p r := by
        have h1 : root p i = root p q := by have := HQ.out; rw [← this]; exact (root_parent Hlow.out hi).symm
        have h2 : root p q = root p r := by have := HR.out; rw [← this]; exact (root_parent Hlow.out hqn).symm
        exact h1.trans h2
      have hhal : ∀ j, root (upd p i r) j = root p j := by
        have h1 := root_halve Hlow.out hi (by have := HQ.out; omega)
        rw [HQ.out, HR.out] at h1
        exact h1
      have HH := Lib.hid (show ∀ j, root (upd p i r) j = root p0 j from fun j => (hhal j).trans (HRo.out j))
      have HN : Hid (root (upd p i r) r = root p0 i0) := Lib.hid ((hhal r).trans (hrq.symm.trans HRi.out))
      have HP2 := Lib.hid (HPar.out.set (i := i) (x := r) (by omega)).drew
      have HK2 := Lib.hid (HK.out.set i (.int .i64 (r : Int))).drew
      clear hhal hrq HPar HK HRo HRi hvar hcq hfi hci HQ HR
      obtain ⟨W2, hW2⟩ : ∃ W2, (wr.setCell ⟨pb, i, none⟩ (.int .i64 (r : Int))).drew = W2 := ⟨_, rfl⟩
      rw [hW2] at HP2 HK2 ⊢
      clear hW2
      have hvar := HP2.out.var
      have hci : W2.cell? ⟨pb, i, none⟩ = some (.int .i64 ((r : Nat) : Int)) := by
        have h1 := (HP2.out.box.cell i).trans (vec_get _ hi)
        rw [h1]
        simp [zf, upd]
      go_wp2_with fail
      go_roundw
      case rel => exact ⟨r, upd p i r, by omega, rfl, HP2.out, HH.out, HN.out, HK2.out⟩
      case measure => simp [intOf]; omega
set_option maxHeartbeats 1000000 in
theorem join2_ok (n : Nat) (hn : n ≤ 65536) (p0 : Nat → Nat) (k pb k2 i : Nat) (hi : i < n) (w : World) (h : Par w k pb n p0) (hk2 : k2 ≠ pb) (hl2 : k2 < w.heap.size) (hc2 : w.cell? ⟨k2, 0, none⟩ = some (.func (.func 21) #[] #[.pointer (some ⟨k, 0, none⟩)])) :
    Calls Try.prog 23 #[.int .i64 (i : Int), .pointer (some ⟨k2, 0, none⟩)] w fun e w' => e = .returned (.agg #[.int .i64 ((root p0 i : Nat) : Int), .int .i64 0]) ∧ (∃ p, Par w' k pb n p ∧ ∀ j, root p j = root p0 j) ∧ Kept (some pb) w.heap.size w w' := by
  have hpar := h.below ((Below.refl _ _).alloc (Nat.le_refl _) (.cells #[.int .i64 0, .int .i64 0] 50)) h.lt h.box.lt
  have HF := Lib.hid (first_ok n hn p0 k pb i hi _ hpar)
  have hpl := h.box.lt
  have hkl := h.lt
  clear hpar h
  go_enter Try.func23, Try.ntmps23
  go_wp2_with fail
  refine HF.out.mono ?_
  rintro e w1 ⟨p, rfl, hpar, hroot, hk⟩
  have HPar := Lib.hid hpar
  have HRo := Lib.hid hroot
  have HK := Lib.hid hk
  have hz : w.heap.size < w1.heap.size := by have := hk.size; simp at this; omega
  have hbox : Box w1 w.heap.size #[.int .i64 0, .int .i64 0] 50 := (hk.block w.heap.size (by simp) (fun e => by have := Option.some.inj e; omega)).trans (Box.new w _ _)
  have HB := Lib.hid hbox
  have hc0 := hbox.cell 0
  have hc1 := hbox.cell 1
  have hf0 := hbox.open_ 0
  have hf1 := hbox.open_ 1
  simp at hc0 hc1
  clear hpar hroot hk hbox
  go_wp2_with fail
  refine bodyPost_ret (v := .agg #[.int .i64 ((root p0 i : Nat) : Int), .int .i64 0]) (by simp [results, Try.results23, go_sem, hz, hc0, hc1]) rfl ⟨rfl, ⟨p, ?_, HRo.out⟩, ?_⟩
  · have hs : ∀ (W : World) (j : Nat) (v : Value), Par W k pb n p → Par (W.setCell ⟨w.heap.size, j, none⟩ v) k pb n p := fun W j v h =>
      ⟨(World.cell?_setCell_other W ⟨w.heap.size, j, none⟩ ⟨k, 0, none⟩ _ (fun e => by have := congrArg Addr.block e; simp at this; omega)).trans h.var, h.ne, by simpa using h.lt, h.box.setOther (by omega) _, h.low⟩
    exact hs _ _ _ (hs _ _ _ HPar.out)
  · have h1 := (Kept.of (pb := some pb) ((Below.refl w.heap.size w).alloc (Nat.le_refl _) (.cells #[.int .i64 0, .int .i64 0] 50))).trans (HK.out.le (by simp))
    exact h1.trans (Kept.of (((Below.refl _ _).setCell (by simp) _).setCell (by simp) _))
end Go.Proofs.Ytokjdlljhloflaa
