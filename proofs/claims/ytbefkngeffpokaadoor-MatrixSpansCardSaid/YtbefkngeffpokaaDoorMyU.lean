/- How the arguments are opened; the table. -/
import Derived.Test.YtbefkngeffpokaaDoorMyT
import Derived.WalkKit
import Derived.WalkSpells
import Derived.WalkLawsBesides
import Derived.Handy
import Derived.Deep.QuietTactic
import Derived.BigQuiet
import Derived.Outline
import Derived.Laws.BitsAllLaws
import Derived.IntWalk
import Derived.Lib.SmallJoins
import Derived.Lib.Hide
import Derived.Deep.DeepCutAuto
import Derived.LoopTactic
import Derived.Deep.RegionWith
import Derived.Laws.CopyOwn
import Derived.Maps.OwnOps
import Derived.Maps.OwnSet
import Derived.Laws.OwnMore
import Derived.Maps.AppendAt
import Derived.RangeFuncNested
import Derived.RangeFuncBound
import Derived.RangeFuncCalls
import Derived.RangeFuncLeaves
import Derived.RangeFuncBox
import Derived.RangeFuncFrom
import Derived.Shelf.Abstract
import Derived.Shelf.RegionOpen
import Derived.OwnWalkIn
import Derived.TacticsInMore
import Derived.LoopNIn
import Derived.LoopIn
import Derived.Deep.RegionHeld3
import Derived.RegionTactic
import Derived.ChangeAlike
import Derived.Test.YtbefkngeffpokaaDoorRows
import Derived.ProofKit
import Derived.OpenShut
import Derived.LaidMore
import Derived.Lay
import Derived.SevenTiedAt
import Derived.Stop.Joined
import Derived.ChangeOld
import Derived.ChangeMaps5
import Derived.Deep.Matrix
namespace Go.Proofs.YtbefkngeffpokaaDoor
set_option linter.unusedVariables false
set_option linter.unusedSimpArgs false
open Go.ChangeShapes Go.WideShapes Go.ChangeAt Go.RowKit


abbrev tabs0 : List (String × DataW Unit) := Rows.matrixVerifiesRow.laid
set_option maxRecDepth 100000 in
theorem tb_of {W : World} (h : laidMetH Tryd.prog tabs0 W) : Tb1 W := by
  rw [MakeChecks.laidMetH_plain _ _ _ (by kernel_rfl)] at h
  obtain ⟨ps, ⟨g, t, cs, fuel, p, q, hg, ht, hv, hd, _, _⟩, _, _⟩ := h
  obtain rfl := Option.some.inj ((show Tryd.prog.globalNamed "math/bits.deBruijn64tab" = some 0 by kernel_rfl).symm.trans hg)
  obtain rfl := Option.some.inj ((show (Tryd.prog.globals[0]?).map (·.type) = some 100 by kernel_rfl).symm.trans ht)
  have c5 : Tryd.prog.cellsOf 5 = 1 := by kernel_rfl
  obtain ⟨xs, m, _, ex, hlen, hl, hel⟩ := DataW.trod_array Tryd.underlying100 hd
  have hL := DataW.agg.inj (Prod.mk.inj ex).1
  have key : ∀ (i : Nat) (n : Int), i < 64 → (xs.map (·.1))[i]? = some (DataW.lit (.int .u8 n)) → W.cell? ⟨0, i, none⟩ = some (.int .u8 n) := by
    intro i n hi h1
    have hx := hel i hi
    rw [List.getElem?_map] at h1
    cases hxi : xs[i]? with
    | none => rw [hxi] at h1; simp at h1
    | some y =>
      rw [hxi] at hx h1
      obtain ⟨z, hz, hy, _⟩ := DataW.trod_int Tryd.underlying5 hx
      rw [c5] at hz
      subst hy
      simp at h1
      have hz2 := congrArg (·[0]?) hz
      simp [List.getElem?_take, List.getElem?_drop] at hz2
      rw [World.var?_cell hg hv i, hz2, h1]
  have e2 : xs.map (·.1) = Lib.deBruijn64tab.map (fun (n : Nat) => DataW.lit (.int .u8 (n : Int))) := hL.symm.trans (by kernel_rfl)
  have hlt : Lib.deBruijn64tab.length = 64 := by decide
  have kall : ∀ j, j < Lib.deBruijn64tab.length → W.cell? ⟨0, j, none⟩ = some (.int .u8 (Lib.deBruijn64tab.getD j 0)) := fun j hj => key j _ (by omega) (by
    rw [e2, List.getElem?_map, List.getD_eq_getElem?_getD, List.getElem?_eq_getElem hj]
    rfl)
  refine ⟨?_, kall⟩
  have k0 := kall 0 (by omega)
  rcases Nat.lt_or_ge 0 W.heap.size with h | h
  · exact h
  · simp [World.cell?, Array.getElem?_eq_none (show W.heap.size ≤ 0 from h)] at k0
theorem lzz_of {H : Type} {enc : TypeId × Value → H} {W : World} {o : Option Addr} {len cap : Nat} {x : DataW H × List MemPlace} (h : ∃ fuel, DataW.trod enc Tryd.prog W 0 (fun _ => true) true fuel 25 (Value.slice o len cap).cells.toList = some x) : ∃ f, Lz W o len f := by
  obtain ⟨fuel, hf⟩ := h
  rcases open_ints Tryd.underlying25 Tryd.underlying3 (by kernel_rfl) hf with ⟨hcs, _⟩ | ⟨y, l, c, zs, hcs, _, hl, hm, hz, _, hcell, hwz⟩
  · simp [Value.cells] at hcs
    obtain ⟨rfl, rfl, rfl⟩ := hcs
    exact ⟨fun _ => 0, Lz.nil⟩
  · simp [Value.cells] at hcs
    obtain ⟨rfl, rfl, rfl⟩ := hcs
    obtain ⟨yb, yo, ys⟩ := y
    have hzl : zs.length = cap := by simpa using hz
    refine ⟨fun i => zs.getD i 0, fun hn => ?_⟩
    have hs : ys = none := by simpa [Addr.add] using World.cell?_spot (hcell 0 (by omega))
    subst hs
    have hcc : ∀ i, i < len → W.cell? ⟨yb, yo + i, none⟩ = some (.int .i64 (zs.getD i 0)) := by
      intro i hi
      have hc := hcell i (by omega)
      have ha : (⟨yb, yo, none⟩ : Addr).add i = ⟨yb, yo + i, none⟩ := by unfold Addr.add; by_cases h : i = 0 <;> simp [h]
      rw [ha] at hc
      exact hc
    refine ⟨yb, yo, rfl, ?_, hcc⟩
    rcases Nat.lt_or_ge yb W.heap.size with h | h
    · exact h
    · have := hcc 0 hn
      simp [World.cell?, Array.getElem?_eq_none h] at this
set_option maxRecDepth 100000 in
theorem mat_of {H : Type} {enc : TypeId × Value → H} {W : World} {r : Reach} {b0 : Nat} {v : Value} {d : DataW H} {p : List MemPlace} (hv : Value.okWide Tryd.prog W r b0 24 v) (h : DataW.Trod enc Tryd.prog W 0 (fun _ => true) true 24 v d p) :
    ∃ C o K cap oc nc cc xc, v = mv C o K cap ∧ Lv W o K oc nc cc xc := by
  obtain ⟨cs, rfl, hsz⟩ := okWide_struct Tryd.underlying24 hv
  have hC : Tryd.prog.cellsOf 24 = 2 := by kernel_rfl
  have hA : Tryd.prog.cellsOf 22 = 1 := by kernel_rfl
  have hI : Tryd.prog.cellsOf 3 = 1 := by kernel_rfl
  obtain ⟨l⟩ := cs
  match l, hsz.trans hC with
  | [c0, c1], _ =>
    obtain ⟨fuel, hf⟩ := h
    obtain ⟨y0, y1, n, hx, _, h0, h1⟩ := trod_struct2 Tryd.underlying24 hf
    simp [Value.cells, hI, hA] at h0 h1
    obtain ⟨n0, q, _, w⟩ := DataW.trod_int Tryd.underlying3 h0
    simp only [List.cons.injEq, and_true] at q
    subst q
    have lt_of : ∀ (b i : Nat) v, W.cell? ⟨b, i, none⟩ = some v → b < W.heap.size := fun b i v hc => by
      rcases Nat.lt_or_ge b W.heap.size with h | h
      · exact h
      · simp [World.cell?, Array.getElem?_eq_none h] at hc
    rcases Deep.open_int_rows Tryd.underlying22 Tryd.underlying25 Tryd.underlying3 (by kernel_rfl) (by kernel_rfl) h1 with ⟨hcs, _⟩ | ⟨a, l, c, A, Ln, CC, Z, hcs, _, hl, hm, _, hr⟩
    · simp at hcs
      subst hcs
      exact ⟨n0, none, 0, 0, fun _ => none, fun _ => 0, fun _ => 0, fun _ _ => 0, rfl, fun hn => absurd hn (Nat.not_lt_zero _)⟩
    · simp at hcs
      subst hcs
      refine ⟨n0, _, l, c, A, Ln, CC, fun r i => (Z r).getD i 0, rfl, fun hn => ?_⟩
      obtain ⟨ab, ao, asp⟩ := a
      have h0 := (hr 0 (by omega)).1
      have hs : asp = none := by simpa [Addr.add] using World.cell?_spot h0
      subst hs
      have hadd : ∀ (b o i : Nat), (⟨b, o, none⟩ : Addr).add i = ⟨b, o + i, none⟩ := fun b o i => by unfold Addr.add; by_cases h : i = 0 <;> simp [h]
      refine ⟨ab, ao, rfl, ?_, fun r hrl => ?_⟩
      · rw [hadd] at h0
        exact lt_of _ _ _ h0
      · obtain ⟨e1, e2, e3, e4, e5, e6, e7⟩ := hr r (by omega)
        rw [hadd] at e1
        refine ⟨e1, fun hl0 => ?_⟩
        cases hA : A r with
        | none =>
          have := e6 hA
          omega
        | some a' =>
          obtain ⟨bb, oo, ss⟩ := a'
          have hc7 := (e7 _ hA).2
          have hs : ss = none := by simpa [Addr.add] using World.cell?_spot (hc7 0 (by omega))
          subst hs
          have hc0 := hc7 0 (by omega)
          rw [hadd] at hc0
          exact ⟨bb, oo, rfl, lt_of _ _ _ hc0, fun i hi => by
            have := hc7 i (by omega)
            rwa [hadd] at this⟩

end Go.Proofs.YtbefkngeffpokaaDoor
