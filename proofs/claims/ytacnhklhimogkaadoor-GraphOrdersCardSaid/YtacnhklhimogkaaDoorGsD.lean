/- An array of three graphs that is passed by value: its value has eighteen integers. -/
import Derived.Test.YtacnhklhimogkaaDoorRows
import Derived.Test.YtacnhklhimogkaaDoorGsB
import Derived.Test.YtacnhklhimogkaaDoorGrO
import Derived.WalkKit
import Derived.ProofKit
import Derived.OpenShut
import Derived.ShutString
import Derived.ChangeOld
import Derived.Below
namespace Go.Proofs.YtacnhklhimogkaaDoor
set_option linter.unusedVariables false
set_option linter.unusedSimpArgs false
open Go.ChangeShapes Go.WideShapes Go.ChangeAt Go.RowKit
set_option linter.unusedVariables false

theorem rng_list {x0 x1 x2 x3 x4 : Int} (h0 : (Lit.int .i64 x0).wf = true) (h1 : (Lit.int .i64 x1).wf = true) (h2 : (Lit.int .i64 x2).wf = true) (h3 : (Lit.int .i64 x3).wf = true) (h4 : (Lit.int .i64 x4).wf = true) :
    Rng (fun p => ([x0, x1, x2, x3, x4] : List Int).getD p 0) := by
  have hw : ∀ x : Int, (Lit.int .i64 x).wf = true → -9223372036854775808 ≤ x ∧ x ≤ 9223372036854775807 := fun x hx => bounds_i64 hx
  intro p hp
  obtain rfl | rfl | rfl | rfl | rfl : p = 0 ∨ p = 1 ∨ p = 2 ∨ p = 3 ∨ p = 4 := by omega
  · exact hw _ h0
  · exact hw _ h1
  · exact hw _ h2
  · exact hw _ h3
  · exact hw _ h4

section
variable {H : Type} {enc : TypeId × Value → H} {w : World} {base : Nat} {spare : Nat → Bool} {held : Bool}

set_option maxRecDepth 100000 in
theorem open_six {fuel : Nat} {c0 c1 c2 c3 c4 c5 : Value} {y : DataW H × List MemPlace} (hf : DataW.trod enc Tryd.prog w base spare held fuel 24 [c0, c1, c2, c3, c4, c5] = some y) :
    ∃ n x0 x1 x2 x3 x4 : Int, (c0 = .int .i64 n ∧ c1 = .int .i64 x0 ∧ c2 = .int .i64 x1 ∧ c3 = .int .i64 x2 ∧ c4 = .int .i64 x3 ∧ c5 = .int .i64 x4) ∧ Rng (fun p => ([x0, x1, x2, x3, x4] : List Int).getD p 0) := by
  have hC : Tryd.prog.cellsOf 24 = 6 := by kernel_rfl
  have hA : Tryd.prog.cellsOf 22 = 5 := by kernel_rfl
  have hI : Tryd.prog.cellsOf 3 = 1 := by kernel_rfl
  obtain ⟨y0, y1, n, hx, _, h0, h1⟩ := trod_struct2 Tryd.underlying24 hf
  simp [hI, hA] at h0 h1
  obtain ⟨xs, m, _, _, _, hlen, hi⟩ := DataW.trod_array Tryd.underlying22 h1
  match xs, hlen with
  | [z0, z1, z2, z3, z4], _ =>
    have e0 := hi 0 (by omega)
    have e1 := hi 1 (by omega)
    have e2 := hi 2 (by omega)
    have e3 := hi 3 (by omega)
    have e4 := hi 4 (by omega)
    simp [hI] at e0 e1 e2 e3 e4
    obtain ⟨n0, q, _, w⟩ := DataW.trod_int Tryd.underlying3 h0
    obtain ⟨n1, q1, _, w1⟩ := DataW.trod_int Tryd.underlying3 e0
    obtain ⟨n2, q2, _, w2⟩ := DataW.trod_int Tryd.underlying3 e1
    obtain ⟨n3, q3, _, w3⟩ := DataW.trod_int Tryd.underlying3 e2
    obtain ⟨n4, q4, _, w4⟩ := DataW.trod_int Tryd.underlying3 e3
    obtain ⟨n5, q5, _, w5⟩ := DataW.trod_int Tryd.underlying3 e4
    simp only [List.cons.injEq, and_true] at q q1 q2 q3 q4 q5
    exact ⟨n0, n1, n2, n3, n4, n5, ⟨q, q1, q2, q3, q4, q5⟩, rng_list w1 w2 w3 w4 w5⟩

set_option maxRecDepth 100000 in
theorem open_graph' {r : Reach} {b0 : Nat} {v : Value} {d : DataW H} {p : List MemPlace} (hv : Value.okWide Tryd.prog w r b0 24 v) (h : DataW.Trod enc Tryd.prog w base spare held 24 v d p) :
    ∃ (n : Int) (x : Nat → Int), v = iv n x ∧ Rng x := by
  obtain ⟨n, x0, x1, x2, x3, x4, rfl, _, h0, h1, h2, h3, h4⟩ := open_graph hv h
  exact ⟨n, _, rfl, rng_list h0 h1 h2 h3 h4⟩

set_option maxRecDepth 100000 in
theorem open_graphs3 {r : Reach} {b0 : Nat} {v : Value} {d : DataW H} {p : List MemPlace} (hv : Value.okWide Tryd.prog w r b0 62 v) (h : DataW.Trod enc Tryd.prog w base spare held 62 v d p) :
    ∃ (na nb nc : Int) (a b c : Nat → Int), v = iv3 na nb nc a b c ∧ Rng a ∧ Rng b ∧ Rng c := by
  have hu := Tryd.underlying62
  simp only [Value.okWide, hu] at hv
  obtain ⟨cs, rfl, hsz, _⟩ := hv
  have hC : Tryd.prog.cellsOf 62 = 18 := by kernel_rfl
  have hG : Tryd.prog.cellsOf 24 = 6 := by kernel_rfl
  obtain ⟨l⟩ := cs
  match l, hsz.trans hC with
  | [c0, c1, c2, c3, c4, c5, c6, c7, c8, c9, c10, c11, c12, c13, c14, c15, c16, c17], _ =>
    obtain ⟨fuel, hf⟩ := h
    obtain ⟨xs, m, _, _, _, hlen, hi⟩ := DataW.trod_array hu hf
    match xs, hlen with
    | [z0, z1, z2], _ =>
      have e0 := hi 0 (by omega)
      have e1 := hi 1 (by omega)
      have e2 := hi 2 (by omega)
      simp [Value.cells, hG] at e0 e1 e2
      obtain ⟨na, a0, a1, a2, a3, a4, ⟨rfl, rfl, rfl, rfl, rfl, rfl⟩, ra⟩ := open_six e0
      obtain ⟨nb, b0, b1, b2, b3, b4, ⟨rfl, rfl, rfl, rfl, rfl, rfl⟩, rb⟩ := open_six e1
      obtain ⟨nc, c0, c1, c2, c3, c4, ⟨rfl, rfl, rfl, rfl, rfl, rfl⟩, rc⟩ := open_six e2
      exact ⟨na, nb, nc, _, _, _, rfl, ra, rb, rc⟩
end
end Go.Proofs.YtacnhklhimogkaaDoor
