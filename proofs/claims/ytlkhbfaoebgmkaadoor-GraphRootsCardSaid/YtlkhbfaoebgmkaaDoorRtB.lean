/- An array of four graphs that is passed by value: its value has twenty-four integers. -/
import Derived.Test.YtlkhbfaoebgmkaaDoorRtA
import Derived.Test.YtlkhbfaoebgmkaaDoorGsD
import Derived.WalkKit
import Derived.ProofKit
import Derived.OpenShut
import Derived.ShutString
import Derived.ChangeOld
import Derived.Below
namespace Go.Proofs.YtlkhbfaoebgmkaaDoor
open Go.ChangeShapes Go.WideShapes Go.ChangeAt Go.RowKit
set_option linter.unusedVariables false
set_option linter.unusedSimpArgs false

section
variable {H : Type} {enc : TypeId × Value → H} {w : World} {base : Nat} {spare : Nat → Bool} {held : Bool}
set_option maxRecDepth 100000 in
theorem open_graphs4 {r : Reach} {b0 : Nat} {v : Value} {d : DataW H} {p : List MemPlace} (hv : Value.okWide Tryd.prog w r b0 59 v) (h : DataW.Trod enc Tryd.prog w base spare held 59 v d p) :
    ∃ (N : Nat → Int) (X : Nat → Nat → Int), v = iv4 N X ∧ ∀ k, k < 4 → Rng (X k) := by
  have hu := Tryd.underlying59
  simp only [Value.okWide, hu] at hv
  obtain ⟨cs, rfl, hsz, _⟩ := hv
  have hC : Tryd.prog.cellsOf 59 = 24 := by kernel_rfl
  have hG : Tryd.prog.cellsOf 24 = 6 := by kernel_rfl
  obtain ⟨l⟩ := cs
  match l, hsz.trans hC with
  | [c0, c1, c2, c3, c4, c5, c6, c7, c8, c9, c10, c11, c12, c13, c14, c15, c16, c17, c18, c19, c20, c21, c22, c23], _ =>
    obtain ⟨fuel, hf⟩ := h
    obtain ⟨xs, m, _, _, _, hlen, hi⟩ := DataW.trod_array hu hf
    match xs, hlen with
    | [z0, z1, z2, z3], _ =>
      have e0 := hi 0 (by omega)
      have e1 := hi 1 (by omega)
      have e2 := hi 2 (by omega)
      have e3 := hi 3 (by omega)
      simp [Value.cells, hG] at e0 e1 e2 e3
      obtain ⟨na, a0, a1, a2, a3, a4, ⟨rfl, rfl, rfl, rfl, rfl, rfl⟩, ra⟩ := open_six e0
      obtain ⟨nb, b0, b1, b2, b3, b4, ⟨rfl, rfl, rfl, rfl, rfl, rfl⟩, rb⟩ := open_six e1
      obtain ⟨nc, c0, c1, c2, c3, c4, ⟨rfl, rfl, rfl, rfl, rfl, rfl⟩, rc⟩ := open_six e2
      obtain ⟨nd, d0, d1, d2, d3, d4, ⟨rfl, rfl, rfl, rfl, rfl, rfl⟩, rd⟩ := open_six e3
      refine ⟨fun k => ([na, nb, nc, nd] : List Int).getD k 0, fun k p => (([[a0, a1, a2, a3, a4], [b0, b1, b2, b3, b4], [c0, c1, c2, c3, c4], [d0, d1, d2, d3, d4]] : List (List Int)).getD k []).getD p 0, rfl, fun k hk => ?_⟩
      obtain rfl | rfl | rfl | rfl : k = 0 ∨ k = 1 ∨ k = 2 ∨ k = 3 := by omega
      · exact ra
      · exact rb
      · exact rc
      · exact rd
end
end Go.Proofs.YtlkhbfaoebgmkaaDoor
