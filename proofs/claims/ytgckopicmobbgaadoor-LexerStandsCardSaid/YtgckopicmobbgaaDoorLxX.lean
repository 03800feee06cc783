/- What the laws want of their first world, out of the listed variables. -/
import Derived.Test.YtgckopicmobbgaaDoorLxW
import Derived.Test.YtgckopicmobbgaaDoorRows
import Derived.WalkKit
import Derived.WalkSpells
import Derived.WalkLawsBesides
import Derived.Handy
import Derived.Deep.QuietTactic
import Derived.BigQuiet
import Derived.Outline
import Derived.Laws.BitsAllLaws
import Derived.IntWalk
import Derived.Lib.SmallJoins
import Derived.Lib.Hide
import Derived.Deep.DeepCutAuto
import Derived.LoopTactic
import Derived.Deep.RegionWith
import Derived.Lib.ConvBytes
import Derived.OwnWalk
import Derived.Laws.MakeOwn
import Derived.Laws.IdiomStrings
import Derived.Deep.Strs
import Derived.Stop.LaidErr
import Derived.ProofKit
import Derived.OpenShut
namespace Go.Proofs.YtgckopicmobbgaaDoor
set_option linter.unusedVariables false
set_option linter.unusedSimpArgs false
open Go.ChangeShapes Go.WideShapes Go.ChangeAt Go.RowKit Lex

/-- A list of strings as a listed variable holds it. -/
def strData (T : List (List Nat)) : DataW Unit := .slice (T.map fun t => .lit (.string (t.map UInt8.ofNat))) []
set_option maxRecDepth 100000 in
theorem strtab_head {name : String} {g : Nat} {T : List (List Nat)} {r : List (String × DataW Unit)} {W : World} (hg0 : Tryd.prog.globalNamed name = some g) (ht0 : (Tryd.prog.globals[g]?).map (·.type) = some 41) (h : laidMet Tryd.prog ((name, strData T) :: r) W) (hT : 0 < T.length) : StrTab W g T := by
  obtain ⟨ps, hv0, _, _⟩ := h
  obtain ⟨g', t, cs, fuel, p, q, hg, ht, hv, hd, _, _⟩ := hv0
  obtain rfl := Option.some.inj (hg0.symm.trans hg)
  obtain rfl := Option.some.inj (ht0.symm.trans ht)
  rcases Deep.open_strs Tryd.underlying41 Tryd.underlying9 (by kernel_rfl) hd with ⟨_, hx⟩ | ⟨a, len, cap, m, Sx, hcs, hb, hl, hm, hmm, hx, hcell⟩
  · cases (Prod.mk.inj hx).1
  · have hx1 := (Prod.mk.inj hx).1
    unfold strData at hx1
    have hx2 := (DataW.slice.inj hx1).1
    have hlen : len = T.length := by
      have := congrArg List.length hx2
      simpa using this.symm
    have hS : ∀ i, i < T.length → Sx i = mk (T.getD i []) := fun i hi => by
      have h1 := congrArg (fun l => l[i]?) hx2
      simp only [List.getElem?_map, List.getElem?_eq_getElem hi, Option.map_some, List.getElem?_range (show i < len by omega)] at h1
      injection h1 with h1
      injection h1 with h1
      injection h1 with h1
      rw [List.getD_eq_getElem?_getD, List.getElem?_eq_getElem hi]
      show Sx i = ⟨(T[i].map UInt8.ofNat).toArray⟩
      rw [h1]
    have hmT : T.length ≤ m := by
      rw [hmm]
      split <;> omega
    obtain ⟨b, off, sp⟩ := a
    have hs0 : sp = none := by simpa [Addr.add] using World.cell?_spot (hcell 0 (by omega)).1
    subst hs0
    have hcc : ∀ i, i < T.length → W.cell? ⟨b, off + i, none⟩ = some (.string (mk (T.getD i []))) := fun i hi => by
      have hc := (hcell i (by omega)).1
      have ha : (⟨b, off, none⟩ : Addr).add i = ⟨b, off + i, none⟩ := by by_cases h : i = 0 <;> simp [Addr.add, h]
      rw [ha, hS i hi] at hc
      exact hc
    have hg1 : W.cell? ⟨g, 0, none⟩ = some (.slice (some ⟨b, off, none⟩) T.length cap) := by
      rw [World.var?_cell hg hv 0, ← Array.getElem?_toList, hcs, ← hlen]
      rfl
    refine ⟨?_, b, off, cap, hg1, ?_, hcc⟩
    · rcases Nat.lt_or_ge g W.heap.size with h | h
      · exact h
      · simp [World.cell?, Array.getElem?_eq_none h] at hg1
    · rcases Nat.lt_or_ge b W.heap.size with h | h
      · exact h
      · have := hcc 0 hT
        simp [World.cell?, Array.getElem?_eq_none h] at this
theorem wg_of {r : List (String × DataW Unit)} {W : World} (h : laidMet Tryd.prog ((Rows.lexerScansRow.laid) ++ r) W) (hm : ∃ m, W.cell? ⟨2, 0, none⟩ = some (.int .i64 m)) : WG W := by
  have h1 : laidMet Tryd.prog (("roundtable/lexer.signs", strData sgT) :: ("roundtable/lexer.reserved", strData rsT) :: r) W := h
  refine ⟨strtab_head (by kernel_rfl) (by kernel_rfl) h1 (by decide), strtab_head (by kernel_rfl) (by kernel_rfl) h1.tail (by decide), ?_, hm⟩
  obtain ⟨m, hm⟩ := hm
  rcases Nat.lt_or_ge 2 W.heap.size with h | h
  · exact h
  · simp [World.cell?, Array.getElem?_eq_none h] at hm

end Go.Proofs.YtgckopicmobbgaaDoor
