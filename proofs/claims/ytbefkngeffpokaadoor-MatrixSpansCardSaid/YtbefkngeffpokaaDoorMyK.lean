/- Kernel of the specification, Rank of the package, of matrices that are well-formed. -/
import Derived.Test.YtbefkngeffpokaaDoorMyF
import Derived.Test.YtbefkngeffpokaaDoorMyJ
import Derived.WalkKit
import Derived.WalkSpells
import Derived.WalkLawsBesides
import Derived.Handy
import Derived.Deep.QuietTactic
import Derived.BigQuiet
import Derived.Outline
import Derived.Laws.BitsAllLaws
import Derived.IntWalk
import Derived.Lib.SmallJoins
import Derived.Lib.Hide
import Derived.Deep.DeepCutAuto
import Derived.LoopTactic
import Derived.Deep.RegionWith
import Derived.Laws.CopyOwn
import Derived.Maps.OwnOps
import Derived.Maps.OwnSet
import Derived.Laws.OwnMore
import Derived.Maps.AppendAt
import Derived.RangeFuncNested
import Derived.RangeFuncBound
import Derived.RangeFuncCalls
import Derived.RangeFuncLeaves
import Derived.RangeFuncBox
import Derived.RangeFuncFrom
import Derived.Shelf.Abstract
import Derived.Shelf.RegionOpen
import Derived.OwnWalkIn
import Derived.TacticsInMore
import Derived.LoopNIn
import Derived.LoopIn
import Derived.Deep.RegionHeld3
import Derived.RegionTactic
import Derived.ChangeAlike
namespace Go.Proofs.YtbefkngeffpokaaDoor
set_option linter.unusedVariables false
set_option linter.unusedSimpArgs false
open Go.RowKit


set_option maxRecDepth 100000 in
set_option maxHeartbeats 2000000 in
theorem rker_good (C K : Nat) (hC : C ≤ 31) (hK : K ≤ 31) (r : Nat → Nat) (hr : ∀ i, i < K → r i < 2 ^ C) (T : List Nat) (τ : Nat → Nat) (hcan : Can C (rows K r) T τ) (o : Option Addr) (cap : Nat) (w : World) (hM : Mx w o K C r) :
    Calls Tryd.prog 31 #[mv (C : Int) o K cap] w (MRes C (nl C T).length (fun i => kr T τ ((nl C T).getD i 0)) 0 w) := by
  obtain ⟨f1, f2, f3⟩ := w2_facts w (C : Int) o K cap
  obtain ⟨S, hS⟩ : ∃ n, w.heap.size = n := ⟨_, rfl⟩
  have H := Lib.hid (rcheck_mx C K (by omega) (by omega) r o cap _ (hM.below f1))
  have HT := Lib.hid (fun W (h : Below w.heap.size w W) => null_ok C K hC hK r hr T τ hcan o cap W (hM.below h))
  have HB := Lib.hid f1
  have HA := Lib.hid f2
  have HR := Lib.hid f3
  obtain ⟨N, hN⟩ : ∃ n, (nl C T).length = n := ⟨_, rfl⟩
  rw [hN] at HT ⊢
  unfold mv at H HT ⊢
  clear hM f1 f2 f3 hr hcan hN
  go_enter Tryd.func31, Tryd.ntmps31
  go_wp2_with fail
  refine H.out.mono ?_
  rintro e W1 ⟨rfl, hb1⟩
  have hr1 := HR.out.below hb1 HR.out.lt
  have ha1 := HA.out.below hb1 HA.out.lt
  rw [hS] at hr1 ha1
  have q0 := ha1.cell 0
  have q1 := ha1.cell 1
  have HB1 := Lib.hid (HB.out.trans (Joins.below_le hb1 HB.out.size))
  have HR1 := Lib.hid hr1
  clear hb1 hr1 ha1
  go_wp2_with fail
  refine (HT.out _ HB1.out).mono ?_
  rintro e W2 ⟨o', c', rfl, hmx, hb2⟩
  have hr2 := (HR1.out.below hb2 (by have := HR1.out.lt; omega))
  have d0 := hr2.cell 0
  have d1 := hr2.cell 1
  have g0 := hr2.open_ 0
  have g2 := hr2.open_ 1
  have hsl : S + 1 < W1.heap.size := HR1.out.lt
  have hfb := (hr2.set 0 (.int .i64 (C : Int))).set 1 (.slice o' N c')
  have hfw := (((HB1.out.trans (Joins.below_le hb2 HB1.out.size))).setCell (p := ⟨S + 1, 0, none⟩) (by show w.heap.size ≤ S + 1; omega) (.int .i64 (C : Int))).setCell (p := ⟨S + 1, 1, none⟩) (by show w.heap.size ≤ S + 1; omega) (.slice o' N c')
  have hfm := ((hmx.set (b := S + 1) (i := 0) hsl (.int .i64 (C : Int))).set (b := S + 1) (i := 1) hsl (.slice o' N c')).le HB1.out.size
  have HFB := Lib.hid hfb
  have HFW := Lib.hid hfw
  have HFM := Lib.hid hfm
  clear hb2 hr2 hfb hfw hfm hmx hsl
  go_wp2_with fail
  have z0 := HFB.out.cell 0
  have z1 := HFB.out.cell 1
  simp at z0 z1
  refine bodyPost_ret (v := .tuple #[.agg #[.int .i64 (C : Int), .slice o' N c'], .int .i64 0]) (by simp [results, Tryd.results31, go_sem, z0, z1]) rfl ⟨_, _, rfl, HFM.out, HFW.out⟩
/-- What reduce leaves is the echelon form. -/
theorem red_can {C K : Nat} {r ρ τ : Nat → Nat} {L T : List Nat} (hr : ∀ i, i < K → r i < 2 ^ C) (h : Bk C K r L ρ L.length) (hcan : Can C (rows K r) T τ) : L = T ∧ ∀ c, c ∈ T → ρ c = τ c := by
  have hlt : ∀ x, x < 2 ^ C → cut (C + 1) x = x := fun x hx => cut_lt (Nat.lt_of_lt_of_le hx (Nat.pow_le_pow_right (by omega) (by omega)))
  have e : (rows K fun i => cut (C + 1) (r i)) = rows K r := rows_congr fun i hi => hlt _ (hr i hi)
  have h1 := bk_can h (D := C) (Nat.le_refl _)
  rw [e] at h1
  obtain ⟨rfl, h2⟩ := h1.uniq hcan
  refine ⟨rfl, fun c hc => ?_⟩
  have h3 := congrFun h2 c
  rw [← h3]
  show _ = if c ∈ L then _ else _
  rw [if_pos hc, hlt]
  refine sp_lt (fun x hx => ?_) (h.ins.sub c hc)
  obtain ⟨i, hi, rfl⟩ := rows_mem.1 hx
  exact hr i hi
theorem fld2 (a b c d : Value) (W : World) : (Instr.field 82 (.agg #[a, b, c, d]) 2).run Tryd.prog W = .ok c W := by kernel_rfl
set_option maxRecDepth 100000 in
set_option maxHeartbeats 2000000 in
theorem rank_good (C K : Nat) (hC : C ≤ 31) (hK : K ≤ 31) (r : Nat → Nat) (hr : ∀ i, i < K → r i < 2 ^ C) (T : List Nat) (τ : Nat → Nat) (hcan : Can C (rows K r) T τ) (hSort : SortP) (o : Option Addr) (cap : Nat) (w : World) (hM : Mx w o K C r) (hTb : Tb w) :
    Calls Tryd.prog 28 #[mv (C : Int) o K cap] w fun e w' => e = .returned (.tuple #[.int .i64 (T.length : Int), .int .i64 0]) ∧ Below w.heap.size w w' := by
  have f1 := mbel w (C : Int) o K cap
  have f2 := mbox w (C : Int) o K cap
  obtain ⟨S, hS⟩ : ∃ n, w.heap.size = n := ⟨_, rfl⟩
  have H := Lib.hid (check_mx C K (by omega) (by omega) r o cap _ (hM.below f1))
  have HT := Lib.hid (fun W (h : Below w.heap.size w W) => reduce_ok C K hC hK r hr o cap W (hM.below h) (hTb.here h) hSort)
  have HRr := Lib.hid hr
  have HCan := Lib.hid hcan
  have HB := Lib.hid f1
  have HA := Lib.hid f2
  have HL := Lib.hid (hcan.len_leC)
  have hfl := fld2
  unfold mv at H HT ⊢
  clear hM f1 f2 hr hcan hTb
  go_enter Tryd.func28, Tryd.ntmps28
  go_wp2_with fail
  refine H.out.mono ?_
  rintro e W1 ⟨rfl, hb1⟩
  have ha1 := HA.out.below hb1 HA.out.lt
  rw [hS] at ha1
  have q0 := ha1.cell 0
  have q1 := ha1.cell 1
  have HB1 := Lib.hid (HB.out.trans (Joins.below_le hb1 HB.out.size))
  clear hb1 ha1
  go_wp2_with fail
  refine (HT.out _ HB1.out).mono ?_
  rintro e W2 ⟨J, L, bl, ρ, rv, lv, Q, M, rfl, hst, hp, hbk, hb2⟩
  obtain ⟨hLT, _⟩ := red_can HRr.out hbk HCan.out
  obtain ⟨ol, cl, rfl, _⟩ := hst.lds.shape' (ints_len L)
  subst hLT
  have HB2 := Lib.hid (HB1.out.trans (Joins.below_le hb2 HB1.out.size))
  clear hb2 hst hp hbk
  go_wp2_with fail
  go_ret2
  exact ⟨rfl, HB2.out⟩

end Go.Proofs.YtbefkngeffpokaaDoor
