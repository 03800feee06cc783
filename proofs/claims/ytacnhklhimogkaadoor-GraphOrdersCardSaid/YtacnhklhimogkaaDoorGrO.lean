/- A graph that is passed by value: its value has six integers; the statement of the first graph theorem follows from the walk of its call. -/
import Derived.Test.YtacnhklhimogkaaDoorRows
import Derived.WalkKit
import Derived.ProofKit
import Derived.OpenShut
import Derived.ShutString
import Derived.ChangeOld
import Derived.Below
namespace Go.Proofs.YtacnhklhimogkaaDoor
set_option linter.unusedVariables false
set_option linter.unusedSimpArgs false
open Go.ChangeShapes Go.WideShapes Go.ChangeAt Go.RowKit
set_option linter.unusedVariables false

theorem own : ownKnob Tryd.prog.godebug = none := by kernel_rfl
theorem laidOut : laidOutB Tryd.prog = true := by kernel_rfl

section
variable {H : Type} {enc : TypeId × Value → H} {w : World} {base : Nat} {spare : Nat → Bool} {held : Bool}

set_option maxRecDepth 100000 in
theorem open_graph {r : Reach} {b0 : Nat} {v : Value} {d : DataW H} {p : List MemPlace} (hv : Value.okWide Tryd.prog w r b0 24 v) (h : DataW.Trod enc Tryd.prog w base spare held 24 v d p) :
    ∃ n x0 x1 x2 x3 x4 : Int, v = .agg #[.int .i64 n, .int .i64 x0, .int .i64 x1, .int .i64 x2, .int .i64 x3, .int .i64 x4] ∧ (Lit.int .i64 n).wf = true ∧ (Lit.int .i64 x0).wf = true ∧ (Lit.int .i64 x1).wf = true ∧ (Lit.int .i64 x2).wf = true ∧ (Lit.int .i64 x3).wf = true ∧ (Lit.int .i64 x4).wf = true := by
  obtain ⟨cs, rfl, hsz⟩ := okWide_struct Tryd.underlying24 hv
  have hC : Tryd.prog.cellsOf 24 = 6 := by kernel_rfl
  have hA : Tryd.prog.cellsOf 22 = 5 := by kernel_rfl
  have hI : Tryd.prog.cellsOf 3 = 1 := by kernel_rfl
  obtain ⟨l⟩ := cs
  match l, hsz.trans hC with
  | [c0, c1, c2, c3, c4, c5], _ =>
    obtain ⟨fuel, hf⟩ := h
    obtain ⟨y0, y1, n, hx, _, h0, h1⟩ := trod_struct2 Tryd.underlying24 hf
    simp [Value.cells, hI, hA] at h0 h1
    obtain ⟨xs, m, _, _, _, hlen, hi⟩ := DataW.trod_array Tryd.underlying22 h1
    match xs, hlen with
    | [z0, z1, z2, z3, z4], _ =>
      have e0 := hi 0 (by omega)
      have e1 := hi 1 (by omega)
      have e2 := hi 2 (by omega)
      have e3 := hi 3 (by omega)
      have e4 := hi 4 (by omega)
      simp [hI] at e0 e1 e2 e3 e4
      obtain ⟨n0, q, _, w⟩ := DataW.trod_int Tryd.underlying3 h0
      obtain ⟨n1, q1, _, w1⟩ := DataW.trod_int Tryd.underlying3 e0
      obtain ⟨n2, q2, _, w2⟩ := DataW.trod_int Tryd.underlying3 e1
      obtain ⟨n3, q3, _, w3⟩ := DataW.trod_int Tryd.underlying3 e2
      obtain ⟨n4, q4, _, w4⟩ := DataW.trod_int Tryd.underlying3 e3
      obtain ⟨n5, q5, _, w5⟩ := DataW.trod_int Tryd.underlying3 e4
      simp only [List.cons.injEq, and_true] at q q1 q2 q3 q4 q5
      subst q q1 q2 q3 q4 q5
      exact ⟨n0, n1, n2, n3, n4, n5, rfl, w, w1, w2, w3, w4, w5⟩
end
end Go.Proofs.YtacnhklhimogkaaDoor
