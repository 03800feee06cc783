/- TopClassesDivide for all lists; how the arguments are opened. -/
import Derived.Test.YtokjdlljhloflaaTcV
import Derived.WalkKit
import Derived.ProofKit
import Derived.OpenShut
import Derived.ChangeOld
import Derived.ChangeMaps5
import Derived.ChangeSlices
import Derived.Below
namespace Go.Proofs.Ytokjdlljhloflaa
set_option linter.unusedVariables false
set_option linter.unusedSimpArgs false
open Go.ChangeShapes Go.WideShapes Go.ChangeAt Go.RowKit

theorem dv_ok (n m : Nat) (f g : Nat → Int) (o p : Option Addr) (cap cap' : Nat) (w : World) (hL : Lz w o n f) (hL' : Lz w p m g) : Calls Try.prog 3 #[.slice o n cap, .slice p m cap'] w fun e w' => e = .returned (.bool true) ∧ Below w.heap.size w w' := by
  by_cases h1 : n < 1
  · exact dv_lt n m h1 o p cap cap' w
  by_cases h2 : 5 < n
  · exact dv_gt n m h2 o p cap cap' w
  by_cases h3 : m = n
  · subst h3
    by_cases h4 : pcd m f = 0
    · by_cases h5 : pcd m g = 0
      · exact dv_good m (by omega) (by omega) f g ((pcd_zero m f).1 h4) ((pcd_zero m g).1 h5) o p cap cap' w hL hL'
      · exact dv_bad2 m (by omega) (by omega) f g h4 _ rfl h5 o p cap cap' w hL hL'
    · exact dv_bad1 m (by omega) (by omega) f g _ rfl h4 o p cap cap' w hL hL'
  · exact dv_ne n m (by omega) (by omega) h3 o p cap cap' w
theorem in64_of {x : Int} (h : (Lit.int .i64 x).wf = true) : In64 x := bounds_i64 h
theorem lz_of {H : Type} {enc : TypeId × Value → H} {W : World} {o : Option Addr} {len cap : Nat} {x : DataW H × List MemPlace} (h : ∃ fuel, DataW.trod enc Try.prog W 0 (fun _ => true) true fuel 22 (Value.slice o len cap).cells.toList = some x) : ∃ f, Lz W o len f ∧ ∀ i, i < len → In64 (f i) := by
  obtain ⟨fuel, hf⟩ := h
  rcases open_ints Try.underlying22 Try.underlying3 (by kernel_rfl) hf with ⟨hcs, _⟩ | ⟨y, l, c, zs, hcs, _, hl, hm, hz, _, hcell, hwz⟩
  · simp [Value.cells] at hcs
    obtain ⟨rfl, rfl, rfl⟩ := hcs
    exact ⟨fun _ => 0, Lz.nil, fun i hi => absurd hi (Nat.not_lt_zero _)⟩
  · simp [Value.cells] at hcs
    obtain ⟨rfl, rfl, rfl⟩ := hcs
    obtain ⟨yb, yo, ys⟩ := y
    have hzl : zs.length = cap := by simpa using hz
    refine ⟨fun i => zs.getD i 0, fun hn => ?_, fun i hi => ?_⟩
    · have hs : ys = none := by simpa [Addr.add] using World.cell?_spot (hcell 0 (by omega))
      subst hs
      have hcc : ∀ i, i < len → W.cell? ⟨yb, yo + i, none⟩ = some (.int .i64 (zs.getD i 0)) := by
        intro i hi
        have hc := hcell i (by omega)
        have ha : (⟨yb, yo, none⟩ : Addr).add i = ⟨yb, yo + i, none⟩ := by unfold Addr.add; by_cases h : i = 0 <;> simp [h]
        rw [ha] at hc
        exact hc
      refine ⟨yb, yo, rfl, ?_, hcc⟩
      rcases Nat.lt_or_ge yb W.heap.size with h | h
      · exact h
      · have := hcc 0 hn
        simp [World.cell?, Array.getElem?_eq_none h] at this
    · have hi2 : i < zs.length := by omega
      refine in64_of (hwz _ ?_)
      show zs.getD i 0 ∈ zs
      rw [List.getD_eq_getElem?_getD, List.getElem?_eq_getElem hi2]
      exact List.getElem_mem hi2

end Go.Proofs.Ytokjdlljhloflaa
