/- The examples hold. -/
import Derived.Test.YtdobhdhgmbmhfaaDoorMxT
import Derived.Test.YtdobhdhgmbmhfaaDoorMxY
import Derived.Test.YtdobhdhgmbmhfaaDoorMyG
import Derived.Test.YtdobhdhgmbmhfaaDoorMyO
import Derived.Test.YtdobhdhgmbmhfaaDoorMyR
import Derived.WalkKit
import Derived.WalkSpells
import Derived.WalkLawsBesides
import Derived.Handy
import Derived.Deep.QuietTactic
import Derived.BigQuiet
import Derived.Outline
import Derived.Laws.BitsAllLaws
import Derived.IntWalk
import Derived.Lib.SmallJoins
import Derived.Lib.Hide
import Derived.Deep.DeepCutAuto
import Derived.LoopTactic
import Derived.Deep.RegionWith
import Derived.Laws.CopyOwn
import Derived.Maps.OwnOps
import Derived.Maps.OwnSet
import Derived.Laws.OwnMore
import Derived.Maps.AppendAt
import Derived.RangeFuncNested
import Derived.RangeFuncBound
import Derived.RangeFuncCalls
import Derived.RangeFuncLeaves
import Derived.RangeFuncBox
import Derived.RangeFuncFrom
import Derived.Shelf.Abstract
import Derived.Shelf.RegionOpen
import Derived.OwnWalkIn
import Derived.TacticsInMore
import Derived.LoopNIn
import Derived.LoopIn
import Derived.Deep.RegionHeld3
import Derived.RegionTactic
import Derived.ChangeAlike
namespace Go.Proofs.YtdobhdhgmbmhfaaDoor
set_option linter.unusedVariables false
set_option linter.unusedSimpArgs false
open Go.RowKit


theorem exr_lt : ∀ i, i < 4 → exr i < 2 ^ 4 := by decide
theorem ex_ech (o : Option Addr) (cap : Nat) (W : World) (hM : Mx W o 4 4 exr) (hT : Tb W) : Calls Tryd.prog 28 #[.agg #[.int .i64 4, .slice o 4 cap]] W fun e w' => ∃ o' cap', e = .returned (.tuple #[.agg #[.int .i64 4, .slice o' 3 cap'], .int .i64 0]) ∧ Mx w' o' 3 4 (fun i => ext ([0, 1, 3].getD i 0)) ∧ Below W.heap.size W w' :=
  (ech_good 4 4 (by omega) (by omega) exr exr_lt _ _ ex_can sort_ok o cap W hM hT).mono fun e w' ⟨o', c', h1, h2, h3⟩ => ⟨o', c', h1, h2.mx, h3⟩
theorem ex_rank (o : Option Addr) (cap : Nat) (W : World) (hM : Mx W o 4 4 exr) (hT : Tb W) : Calls Tryd.prog 17 #[.agg #[.int .i64 4, .slice o 4 cap]] W fun e w' => e = .returned (.tuple #[.int .i64 3, .int .i64 0]) ∧ Below W.heap.size W w' :=
  (rank_good 4 4 (by omega) (by omega) exr exr_lt _ _ ex_can sort_ok o cap W hM hT).mono fun e w' ⟨h1, h3⟩ => ⟨h1, h3⟩
theorem ex_ker (o : Option Addr) (cap : Nat) (W : World) (hM : Mx W o 4 4 exr) (hT : Tb W) : Calls Tryd.prog 14 #[.agg #[.int .i64 4, .slice o 4 cap]] W fun e w' => ∃ o' cap', e = .returned (.tuple #[.agg #[.int .i64 4, .slice o' 1 cap'], .int .i64 0]) ∧ Mx w' o' 1 4 (fun _ => 7) ∧ Below W.heap.size W w' := by
  refine (ker_good 4 4 (by omega) (by omega) exr exr_lt _ _ ex_can sort_ok o cap W hM hT).mono ?_
  rintro e w' ⟨o', c', h1, h2, h3⟩
  have e1 : (nl 4 [0, 1, 3]).length = 1 := by decide
  rw [e1] at h1 h2
  refine ⟨o', c', h1, h2.mx.congr fun i hi => ?_, h3⟩
  obtain rfl : i = 0 := by omega
  decide
theorem ex_tr (o : Option Addr) (cap : Nat) (W : World) (hM : Mx W o 4 4 exr) : Calls Tryd.prog 15 #[.agg #[.int .i64 4, .slice o 4 cap]] W fun e w' => ∃ o' cap', e = .returned (.tuple #[.agg #[.int .i64 4, .slice o' 4 cap'], .int .i64 0]) ∧ Mx w' o' 4 4 (trr 4 exr) ∧ Below W.heap.size W w' := trans_good 4 4 (by omega) (by omega) exr o cap W hM
theorem ex_s1 (o p : Option Addr) (cap cp : Nat) (W : World) (hM : Mx W o 4 4 exr) (hL : Lz W p 3 (lz [0, 1, 3])) (hT : Tb W) : Calls Tryd.prog 9 #[.agg #[.int .i64 4, .slice o 4 cap], .slice p 3 cp] W fun e w' => ∃ xo xc, e = .returned (.tuple #[.slice xo 2 xc, .slice none 0 0, .bool true, .int .i64 0]) ∧ Lz w' xo 2 (lz [1, 3]) ∧ Below W.heap.size W w' := by
  have e1 : el 4 11 = [0, 1, 3] := by decide
  have e2 : sol 4 [0, 1, 3] ext1 = [1, 3] := by decide
  have h := solve_good 4 4 (by omega) exr exr_lt 11 (by decide) _ _ ex_can1 sort_ok o p cap cp W hM (by rw [e1]; exact hL) hT
  rw [e1] at h
  refine h.mono ?_
  rintro e w' ⟨hb, (⟨h9, _⟩ | ⟨_, xo, xc, h1, h2⟩)⟩
  · exact absurd h9 (by decide)
  · rw [e2] at h1 h2
    exact ⟨xo, xc, h1, h2, hb⟩
theorem ex_s2 (o p : Option Addr) (cap cp : Nat) (W : World) (hM : Mx W o 4 4 exr) (hL : Lz W p 1 (lz [0])) (hT : Tb W) : Calls Tryd.prog 9 #[.agg #[.int .i64 4, .slice o 4 cap], .slice p 1 cp] W fun e w' => ∃ yo yc, e = .returned (.tuple #[.slice none 0 0, .slice yo 3 yc, .bool false, .int .i64 0]) ∧ Lz w' yo 3 (lz [0, 1, 2]) ∧ Below W.heap.size W w' := by
  have e1 : el 4 1 = [0] := by decide
  have e2 : el 4 7 = [0, 1, 2] := by decide
  have h := solve_good 4 4 (by omega) exr exr_lt 1 (by decide) _ _ ex_can2 sort_ok o p cap cp W hM (by rw [e1]; exact hL) hT
  rw [e1] at h
  refine h.mono ?_
  rintro e w' ⟨hb, (⟨_, y, yo, yc, h1, h2, hrf, hy⟩ | ⟨h9, _⟩)⟩
  · obtain rfl := ex_ref hrf hy
    rw [e2] at h1 h2
    exact ⟨yo, yc, h1, h2, hb⟩
  · exact absurd (by decide) h9
theorem ex_v1 (o p q : Option Addr) (cap cp cq : Nat) (W : World) (hT : Tb W) (hM : Mx W o 4 4 exr) (hL : Lz W p 1 (lz [0])) (hL' : Lz W q 3 (lz [0, 1, 2])) : Calls Tryd.prog 11 #[.agg #[.int .i64 4, .slice o 4 cap], .slice p 1 cp, .slice q 3 cq] W fun e w' => e = .returned (.int .i64 0) ∧ Below W.heap.size W w' := by
  have e1 : el 4 1 = [0] := by decide
  have e2 : el 4 7 = [0, 1, 2] := by decide
  have e3 : vfy 4 4 exr 1 7 = 0 := by decide
  have h := verify_good 4 4 (by omega) (by omega) exr exr_lt 1 7 (by decide) o p q cap cp cq W hT hM (by rw [e1]; exact hL) (by rw [e2]; exact hL')
  rw [e1, e2, e3] at h
  exact h
theorem ex_v2 (o p q : Option Addr) (cap cp cq : Nat) (W : World) (hT : Tb W) (hM : Mx W o 4 4 exr) (hL : Lz W p 3 (lz [0, 1, 3])) (hL' : Lz W q 3 (lz [0, 1, 2])) : Calls Tryd.prog 11 #[.agg #[.int .i64 4, .slice o 4 cap], .slice p 3 cp, .slice q 3 cq] W fun e w' => e = .returned (.int .i64 18) ∧ Below W.heap.size W w' := by
  have e1 : el 4 11 = [0, 1, 3] := by decide
  have e2 : el 4 7 = [0, 1, 2] := by decide
  have e3 : vfy 4 4 exr 11 7 = 18 := by decide
  have h := verify_good 4 4 (by omega) (by omega) exr exr_lt 11 7 (by decide) o p q cap cp cq W hT hM (by rw [e1]; exact hL) (by rw [e2]; exact hL')
  rw [e1, e2, e3] at h
  exact h
theorem ex_eq (l : List Nat) (hl : l.length ≤ 100) (n : Nat) (hn : l.length = n) (o p : Option Addr) (cap cap' : Nat) (W : World) (hL : Lz W o n (lz l)) (hL' : Lz W p n (lz l)) : Calls Tryd.prog 12 #[.slice o n cap, .slice p n cap'] W fun e w' => e = .returned (.bool true) ∧ Below W.heap.size W w' := by
  have h := equal_any n n (by omega) (lz l) (lz l) o p cap cap' W hL hL'
  rw [eqb_self fun i _ => rfl] at h
  exact h
theorem vl (U : World) (l : List Nat) (n : Nat) (hn : l.length = n) : Lz (U.alloc (.cells (lsv (ints l)).toArray 3)) (some ⟨U.heap.size, 0, none⟩) n (lz l) := by
  have h := lz_lit (ints l) U 3
  rw [ints_len, hn] at h
  exact h.congr fun i _ => ints_at l i

end Go.Proofs.YtdobhdhgmbmhfaaDoor
