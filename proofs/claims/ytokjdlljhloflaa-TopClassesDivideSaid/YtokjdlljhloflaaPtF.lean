/- Package partition: Of, meet, Meet, Refine. -/
import Derived.Test.YtokjdlljhloflaaPtE
import Derived.WalkKit
import Derived.WalkSpells
import Derived.WalkLawsBesides
import Derived.Handy
import Derived.Deep.QuietTactic
import Derived.BigQuiet
import Derived.Outline
import Derived.Laws.BitsAllLaws
import Derived.IntWalk
import Derived.Lib.SmallJoins
import Derived.Lib.Hide
import Derived.Deep.DeepCutAuto
import Derived.LoopTactic
import Derived.Deep.RegionWith
namespace Go.Proofs.Ytokjdlljhloflaa
set_option linter.unusedVariables false
set_option linter.unusedSimpArgs false
open Go.RowKit Part

/-- A list and an error come back. -/
def PRes (n : Nat) (g : Nat → Int) (c : Int) (w : World) (e : Ending) (w' : World) : Prop := ∃ o cap, e = .returned (.tuple #[.slice o n cap, .int .i64 c]) ∧ Lz w' o n g ∧ Below w.heap.size w w'
/-- A list comes back. -/
def LRes (n : Nat) (g : Nat → Int) (w : World) (e : Ending) (w' : World) : Prop := ∃ o cap, e = .returned (.slice o n cap) ∧ Lz w' o n g ∧ Below w.heap.size w w'
/-- The labels of keys that are integers. -/
def labf (f : Nat → Int) : Nat → Int := fun i => (lab (fun j => (f j, (0 : Int))) i : Nat)
/-- The labels of pairs. -/
def meetf (f g : Nat → Int) : Nat → Int := fun i => (lab (fun j => (f j, g j)) i : Nat)

set_option maxHeartbeats 1000000 in
theorem meet1_ok (i n m : Nat) (hi : i < n) (hm : i < m) (hn : n ≤ 65536) (hm' : m ≤ 65536) (f g : Nat → Int) (o p : Option Addr) (cap cap' k k' : Nat) (W : World) (hk : W.cell? ⟨k, 0, none⟩ = some (.slice o n cap)) (hk' : W.cell? ⟨k', 0, none⟩ = some (.slice p m cap')) (hkl : k < W.heap.size) (hkl' : k' < W.heap.size) (hL : Lz W o n f) (hL' : Lz W p m g) :
    Calls Try.prog 34 #[.int .i64 (i : Int), .pointer (some ⟨k, 0, none⟩), .pointer (some ⟨k', 0, none⟩)] W fun e w' => e = .returned (.agg #[.int .i64 (f i), .int .i64 (g i)]) ∧ Below W.heap.size W w' := by
  obtain ⟨b, off, rfl, hb, hc⟩ := hL (by omega)
  have hci := hc i hi
  obtain ⟨b', off', rfl, hb', hc'⟩ := hL' (by omega)
  have hci' := hc' i hm
  clear hc hL hc' hL'
  go_enter Try.func34, Try.ntmps34
  have hi1 : (i : Int) < (n : Int) := by omega
  have hi2 : (i : Int) < (m : Int) := by omega
  go_wp2_with fail
  have a1 : (W.alloc (.cells #[.int .i64 0, .int .i64 0] 50)).cell? ⟨k, 0, none⟩ = some (.slice (some ⟨b, off, none⟩) n cap) := (World.cell?_alloc_lt _ _ _ hkl).trans hk
  have a2 : (W.alloc (.cells #[.int .i64 0, .int .i64 0] 50)).cell? ⟨k', 0, none⟩ = some (.slice (some ⟨b', off', none⟩) m cap') := (World.cell?_alloc_lt _ _ _ hkl').trans hk'
  have a3 : (W.alloc (.cells #[.int .i64 0, .int .i64 0] 50)).cell? ⟨b, off + i, none⟩ = some (.int .i64 (f i)) := (World.cell?_alloc_lt _ _ _ hb).trans hci
  have a4 : (W.alloc (.cells #[.int .i64 0, .int .i64 0] 50)).cell? ⟨b', off' + i, none⟩ = some (.int .i64 (g i)) := (World.cell?_alloc_lt _ _ _ hb').trans hci'
  have a5 : (W.alloc (.cells #[.int .i64 0, .int .i64 0] 50)).cell? ⟨W.heap.size, 0, none⟩ = some (.int .i64 0) := World.cell?_alloc_mark W _ 50 (0, 0) 0
  have a6 : (W.alloc (.cells #[.int .i64 0, .int .i64 0] 50)).cell? ⟨W.heap.size, 1, none⟩ = some (.int .i64 0) := World.cell?_alloc_mark W _ 50 (0, 0) 1
  go_region
  go_wp2_with fail
  exact bodyPost_ret (v := .agg #[.int .i64 (f i), .int .i64 (g i)]) (by simp [results, Try.results34, go_sem]) rfl ⟨rfl, ((Below.refl _ _).alloc (Nat.le_refl _) _).drew⟩
/-- A slice of integers below block B. -/
def Lb (B : Nat) (w : World) (o : Option Addr) (n : Nat) (f : Nat → Int) : Prop := 0 < n → ∃ b off, o = some ⟨b, off, none⟩ ∧ b < B ∧ ∀ i, i < n → w.cell? ⟨b, off + i, none⟩ = some (.int .i64 (f i))
theorem Lz.at_ {w : World} {o : Option Addr} {n : Nat} {f : Nat → Int} (h : Lz w o n f) : Lb w.heap.size w o n f := h
theorem Lb.lz {B : Nat} {w : World} {o : Option Addr} {n : Nat} {f : Nat → Int} (h : Lb B w o n f) (hB : B ≤ w.heap.size) : Lz w o n f := fun hn => by
  obtain ⟨b, off, e, hl, hc⟩ := h hn
  exact ⟨b, off, e, by omega, hc⟩
theorem Lb.below {B : Nat} {w W : World} {o : Option Addr} {n : Nat} {f : Nat → Int} (h : Lb B w o n f) (hb : Below B w W) : Lb B W o n f := fun hn => by
  obtain ⟨b, off, e, hl, hc⟩ := h hn
  exact ⟨b, off, e, hl, fun i hi => (hb.cell (p := ⟨b, off + i, none⟩) hl).trans (hc i hi)⟩
theorem Lb.more {B B' : Nat} {w : World} {o : Option Addr} {n : Nat} {f : Nat → Int} (h : Lb B w o n f) (hB : B ≤ B') : Lb B' w o n f := fun hn => by
  obtain ⟨b, off, e, hl, hc⟩ := h hn
  exact ⟨b, off, e, by omega, hc⟩

/-- What the closure of Of finds. -/
def InvO (B : Nat) (k n cap : Nat) (o : Option Addr) (f : Nat → Int) (W : World) : Prop := W.cell? ⟨k, 0, none⟩ = some (.slice o n cap) ∧ k < B ∧ Lb B W o n f
theorem InvO.below {B k n cap : Nat} {o : Option Addr} {f : Nat → Int} {W W' : World} (h : InvO B k n cap o f W) (hb : Below B W W') : InvO B k n cap o f W' :=
  ⟨(hb.cell (p := ⟨k, 0, none⟩) h.2.1).trans h.1, h.2.1, h.2.2.below hb⟩
theorem labres_none {n : Nat} {K : Nat → Int × Int} {g : Nat → Int} (hg : g = fun i => ((lab K i : Nat) : Int)) {I : World → Prop} {w w1 : World} {e : Ending} {w' : World} (hw : Below w.heap.size w w1) (h : LabRes n K none I w1 e w') : LRes n g w e w' := by
  obtain ⟨b, rfl, _, hB, _, hk⟩ := h
  subst hg
  exact ⟨_, _, rfl, hB.lz, hw.trans ((hk.below (fun k e => by cases e)).mono hw.size)⟩

/-- What the closure of meet finds. -/
def InvM (B : Nat) (k n cap : Nat) (o : Option Addr) (f : Nat → Int) (k' cap' : Nat) (p : Option Addr) (g : Nat → Int) (W : World) : Prop := InvO B k n cap o f W ∧ InvO B k' n cap' p g W
set_option maxHeartbeats 1000000 in
theorem meet_okn (n : Nat) (hn : n ≤ 65536) (f g : Nat → Int) (hf : ∀ i, i < n → In64 (f i)) (hg : ∀ i, i < n → In64 (g i)) (o p : Option Addr) (cap cap' : Nat) (w : World) (hL : Lz w o n f) (hL' : Lz w p n g) : Calls Try.prog 20 #[.slice o n cap, .slice p n cap'] w (LRes n (meetf f g) w) := by
  have HL := Lib.hid hL
  have HL' := Lib.hid hL'
  have HF := Lib.hid hf
  have HG := Lib.hid hg
  clear hL hf hL' hg
  go_enter Try.func20, Try.ntmps20
  go_wp2_with fail
  have hb2 : Below w.heap.size w ((w.alloc (.cells #[.slice o n cap] 22)).alloc (.cells #[.slice p n cap'] 22)) := ((Below.refl _ _).alloc (Nat.le_refl _) _).alloc (by simp) _
  have HB2 := Lib.hid hb2
  clear hb2
  refine (labels_meet n hn (.pointer (some ⟨w.heap.size, 0, none⟩)) (.pointer (some ⟨w.heap.size + 1, 0, none⟩)) (fun i => (f i, g i)) (fun i hi => ⟨HF.out i hi, HG.out i hi⟩) none (InvM (w.heap.size + 2) w.heap.size n cap o f (w.heap.size + 1) cap' p g) _ (fun k e => by cases e) (fun W W' h _ hb => ⟨h.1.below (hb.mono (by simp)), h.2.below (hb.mono (by simp))⟩)
    ⟨⟨(World.cell?_alloc_lt _ _ _ (by simp)).trans (World.cell?_alloc_mark w #[.slice o n cap] 22 (0, 0) 0), by omega, (HL.out.at_.below HB2.out).more (by omega)⟩, ⟨Joins.cell_alloc_mark_at _ #[.slice p n cap'] 22 (0, 0) _ 0 (by simp), by omega, (HL'.out.at_.below HB2.out).more (by omega)⟩⟩
    (fun i W hi hI hs => (meet1_ok i n n hi hi hn hn f g o p cap cap' w.heap.size (w.heap.size + 1) W hI.1.1 hI.2.1 (by simp at hs; omega) (by simp at hs; omega) (hI.1.2.2.lz (by simpa using hs)) (hI.2.2.2.lz (by simpa using hs))).mono fun e W' ⟨h1, h2⟩ => ⟨h1, ⟨hI.1.below (h2.mono (by simpa using hs)), hI.2.below (h2.mono (by simpa using hs))⟩, Kept.of h2⟩)).mono ?_
  intro e w1 h
  obtain ⟨q, c, rfl, hl, hb⟩ := labres_none (g := meetf f g) rfl (w := w) HB2.out h
  have HLL := Lib.hid hl
  have HBB := Lib.hid hb
  clear h hl hb
  go_wp2_with fail
  go_ret
  exact ⟨_, _, rfl, HLL.out, HBB.out⟩

/-- A pair that is refused. -/
theorem meet_bad (n m : Nat) (f g : Nat → Int) (c : Int) (hc : pcd2 n f m g = c) (h0 : c ≠ 0) (o p : Option Addr) (cap cap' : Nat) (w : World) (hL : Lz w o n f) (hL' : Lz w p m g) : Calls Try.prog 8 #[.slice o n cap, .slice p m cap'] w (PRes 0 (fun _ => 0) c w) := by
  have H := Lib.hid (pair_any n m f g o p cap cap' w hL hL')
  rw [hc] at H
  have h1 : (c != 0) = true := by rw [bne_iff_ne]; exact h0
  clear hL hL' hc h0
  go_enter Try.func8, Try.ntmps8
  go_wp2_with fail
  refine H.out.mono ?_
  rintro e w' ⟨rfl, rfl⟩
  go_wp2_with fail
  go_ret2
  exact ⟨_, _, rfl, Lz.nil, Below.refl _ _⟩
theorem meet_good (n : Nat) (f g : Nat → Int) (hf : Good n f) (hg : Good n g) (o p : Option Addr) (cap cap' : Nat) (w : World) (hL : Lz w o n f) (hL' : Lz w p n g) : Calls Try.prog 8 #[.slice o n cap, .slice p n cap'] w (PRes n (meetf f g) 0 w) := by
  have H := Lib.hid (pair_any n n f g o p cap cap' w hL hL')
  rw [(pcd2_zero n f n g).2 ⟨hf, hg, rfl⟩] at H
  have HM := Lib.hid (meet_okn n hf.1 f g hf.wf64 hg.wf64 o p cap cap' w hL hL')
  clear hL hL' hf hg
  go_enter Try.func8, Try.ntmps8
  go_wp2_with fail
  refine H.out.mono ?_
  rintro e w' ⟨rfl, rfl⟩
  go_wp2_with fail
  refine HM.out.mono ?_
  rintro e w1 ⟨q, c, rfl, hl, hb⟩
  have HLL := Lib.hid hl
  have HBB := Lib.hid hb
  clear hl hb
  go_wp2_with fail
  go_ret2
  exact ⟨_, _, rfl, HLL.out, HBB.out⟩
end Go.Proofs.Ytokjdlljhloflaa
