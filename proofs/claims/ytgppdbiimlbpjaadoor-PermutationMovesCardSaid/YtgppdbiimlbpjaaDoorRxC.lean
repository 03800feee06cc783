/- slices.Clone of a slice that is not nil. -/
import Derived.Test.YtgppdbiimlbpjaaDoorRxB
import Derived.WalkKit
import Derived.WalkSpells
import Derived.WalkLawsBesides
import Derived.Handy
import Derived.Deep.QuietTactic
import Derived.BigQuiet
import Derived.Outline
import Derived.Laws.BitsAllLaws
import Derived.IntWalk
import Derived.Lib.SmallJoins
import Derived.Lib.Hide
import Derived.Deep.DeepCutAuto
import Derived.LoopTactic
import Derived.Deep.RegionWith
import Derived.Laws.CopyOwn
import Derived.Maps.OwnOps
import Derived.Maps.OwnSet
import Derived.Laws.OwnMore
import Derived.Maps.AppendAt
import Derived.Test.YtgppdbiimlbpjaaDoorShelF
import Derived.RangeFuncNested
import Derived.RangeFuncBound
import Derived.RangeFuncCalls
import Derived.RangeFuncLeaves
import Derived.RangeFuncBox
import Derived.RangeFuncFrom
import Derived.Shelf.Abstract
import Derived.Shelf.RegionOpen
import Derived.OwnWalkIn
import Derived.TacticsInMore
import Derived.LoopNIn
import Derived.LoopIn
namespace Go.Proofs.YtgppdbiimlbpjaaDoor
set_option linter.unusedVariables false
set_option linter.unusedSimpArgs false
open Go.RowKit

set_option maxRecDepth 100000 in
set_option maxHeartbeats 1000000 in
theorem clone_ok (b off n cap : Nat) (hn : n ≤ 1000000) (f : Nat → Int) (w : World) (hb : b < w.heap.size) (hc : ∀ i, i < n → w.cell? ⟨b, off + i, none⟩ = some (.int .i64 (f i))) :
    Calls Tryd.prog 54 #[.slice (some ⟨b, off, none⟩) n cap] w fun e w' => ∃ v, e = .returned v ∧ Row w' w.heap.size v (lsf n f) ∧ Below w.heap.size w w' := by
  obtain ⟨i0, hi0, hz0, hz1, hz2⟩ := info_parts infoI
  have hown := World.ownsRow_lit (base := w.heap.size) (e := 3) (size := 1) w #[] 0 (Nat.le_refl _) (by decide) rfl
  have hlen : (lsv (lsf n f)).length = n := by simp [lsv, lsf]
  have hsrc : ∀ j u, (lsv (lsf n f))[j]? = some u → (w.alloc (.cells #[] 3)).cell? ((⟨b, off, none⟩ : Addr).add j) = some u := by
    intro j u hu
    have hj : j < n := by have := (List.getElem?_eq_some_iff.1 hu).1; omega
    rw [addr_add, World.cell?_alloc_lt _ _ _ hb, hc j hj, ← hu]
    simp [lsv, lsf, hj]
  have heq : ∀ W, (binOp BinOp.eql 22 (Value.slice (some ⟨b, off, none⟩) n cap) (Value.slice none 0 0)).run Tryd.prog W = .ok (.bool false) W := fun W => by first | rfl | kernel_rfl | simp [binOp, go_sem, Tryd.underlying22]
  have HOwn := Lib.hid hown
  have HSrc := Lib.hid hsrc
  have HLen := Lib.hid hlen
  clear hc hown hsrc hlen
  go_enter Tryd.func54, Tryd.ntmps54
  go_wp2_with (at_builtin; go_loud (refine wpList_append_own_at _ rfl _ _ 22 rfl w.heap.size 3 i0 (.int .i64 0) 1 8 Tryd.underlying22 hi0 hz0 hz1 hz2 rfl (by decide) _ 0 [] rfl HOwn.out ⟨b, off, none⟩ n cap (lsv (lsf n f)) rfl (by rw [HLen.out]; omega) HSrc.out (by intro u hu; unfold lsv at hu; rw [List.mem_map] at hu; obtain ⟨x, _, rfl⟩ := hu; rfl) (by unfold maxLen; omega) (by omega) (by simp) ?_; intro v' w2 hown2 hgrow _ hat; have HO := Lib.hid hown2; have HG := Lib.hid hgrow; clear hown2 hgrow hat))
  go_ret
  refine ⟨_, rfl, ?_, (((Below.refl _ w).alloc (Nat.le_refl _) _).grown HG.out (by simp) (fun k hk => (HOwn.out.lt k hk).1))⟩
  have h := HO.out
  rw [Nat.zero_add, List.nil_append] at h
  have e : (lsf n f).length = n := by simp [lsf]
  unfold Row
  rw [e]
  exact h

end Go.Proofs.YtgppdbiimlbpjaaDoor
