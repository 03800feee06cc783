/- Keys of the map of permutations. -/
import Derived.Test.YtgppdbiimlbpjaaDoorRwH
import Derived.WalkKit
import Derived.WalkSpells
import Derived.WalkLawsBesides
import Derived.Handy
import Derived.Deep.QuietTactic
import Derived.BigQuiet
import Derived.Outline
import Derived.Laws.BitsAllLaws
import Derived.IntWalk
import Derived.Lib.SmallJoins
import Derived.Lib.Hide
import Derived.Deep.DeepCutAuto
import Derived.LoopTactic
import Derived.Deep.RegionWith
import Derived.Laws.CopyOwn
import Derived.Maps.OwnOps
import Derived.Maps.OwnSet
import Derived.Laws.OwnMore
namespace Go.Proofs.YtgppdbiimlbpjaaDoor
set_option linter.unusedVariables false
set_option linter.unusedSimpArgs false
open Go.RowKit

/-- A list of n numbers as an array of five. -/
def pad (n : Nat) (f : Nat → Int) : Value := .agg #[.int .i64 (if 0 < n then f 0 else 0), .int .i64 (if 1 < n then f 1 else 0), .int .i64 (if 2 < n then f 2 else 0), .int .i64 (if 3 < n then f 3 else 0), .int .i64 (if 4 < n then f 4 else 0)]
theorem addr_add (b o k : Nat) : (⟨b, o, none⟩ : Addr).add k = ⟨b, o + k, none⟩ := by
  by_cases h : k = 0
  · subst h; simp [Addr.add]
  · simp [Addr.add, h]

set_option maxRecDepth 100000 in
theorem key_1 (cap : Nat) (hcap : 1 ≤ cap) (o : Option Addr) (f : Nat → Int) (w : World) (hL : Lz w o 1 f) : Calls Tryd.prog 58 #[.slice o 1 cap] w fun e w' => e = .returned (pad 1 f) ∧ Below w.heap.size w w' := by
  obtain ⟨bl, ofs, rfl, hbl, hc⟩ := hL (by omega)
  have c0 := hc 0 (by omega)
  obtain ⟨x0, hx0⟩ : ∃ x, f 0 = x := ⟨_, rfl⟩
  rw [hx0] at c0
  have hpad : pad 1 f = .agg #[.int .i64 x0, .int .i64 0, .int .i64 0, .int .i64 0, .int .i64 0] := by simp [pad, hx0]
  rw [hpad]
  have W2 : ∃ W, W = (w.alloc (.cells #[.int .i64 0, .int .i64 0, .int .i64 0, .int .i64 0, .int .i64 0] 85)).alloc (.cells #[.int .i64 0, .int .i64 0, .int .i64 0, .int .i64 0, .int .i64 0] 85) := ⟨_, rfl⟩
  have src : ∀ j v, [.int .i64 x0][j]? = some v → ((w.alloc (.cells #[.int .i64 0, .int .i64 0, .int .i64 0, .int .i64 0, .int .i64 0] 85)).alloc (.cells #[.int .i64 0, .int .i64 0, .int .i64 0, .int .i64 0, .int .i64 0] 85)).cell? ((⟨bl, ofs, none⟩ : Addr).add j) = some v := by
    intro j v hv
    have hj : j < 1 := by
      have := (List.getElem?_eq_some_iff.1 hv).1
      simpa using this
    rw [addr_add, World.cell?_alloc_lt _ _ _ (by simp; omega), World.cell?_alloc_lt _ _ _ (by exact hbl)]
    match j, hj with
    | 0, _ => simp at hv; rw [← hv]; exact c0
  have hrun := run_copy_row (P := Tryd.prog) ((w.alloc (.cells #[.int .i64 0, .int .i64 0, .int .i64 0, .int .i64 0, .int .i64 0] 85)).alloc (.cells #[.int .i64 0, .int .i64 0, .int .i64 0, .int .i64 0, .int .i64 0] 85)) 22 22 3 3 (w.heap.size + 1) 0 5 5 ⟨bl, ofs, none⟩ 1 cap #[.int .i64 0, .int .i64 0, .int .i64 0, .int .i64 0, .int .i64 0] 85 [.int .i64 x0] Tryd.underlying22 (by kernel_rfl) (by have := Box.new (w.alloc (.cells #[.int .i64 0, .int .i64 0, .int .i64 0, .int .i64 0, .int .i64 0] 85)) #[.int .i64 0, .int .i64 0, .int .i64 0, .int .i64 0, .int .i64 0] 85; rw [World.size_alloc] at this; exact this) rfl src (by simp) (by simp [Value.oneCell'])
  obtain ⟨W3, hW3⟩ : ∃ W3, ((w.alloc (.cells #[.int .i64 0, .int .i64 0, .int .i64 0, .int .i64 0, .int .i64 0] 85)).alloc (.cells #[.int .i64 0, .int .i64 0, .int .i64 0, .int .i64 0, .int .i64 0] 85)).setRow (w.heap.size + 1) #[.int .i64 x0, .int .i64 0, .int .i64 0, .int .i64 0, .int .i64 0] = W3 := ⟨_, rfl⟩
  have b1 : Box W3 (w.heap.size + 1) #[.int .i64 x0, .int .i64 0, .int .i64 0, .int .i64 0, .int .i64 0] 85 := by
    rw [← hW3]
    exact setRow_heap _ _ #[.int .i64 0, .int .i64 0, .int .i64 0, .int .i64 0, .int .i64 0] _ 85 (0, 0) (by have := Box.new (w.alloc (.cells #[.int .i64 0, .int .i64 0, .int .i64 0, .int .i64 0, .int .i64 0] 85)) #[.int .i64 0, .int .i64 0, .int .i64 0, .int .i64 0, .int .i64 0] 85; rw [World.size_alloc] at this; exact this)
  have b0 : Box W3 w.heap.size #[.int .i64 0, .int .i64 0, .int .i64 0, .int .i64 0, .int .i64 0] 85 := by
    rw [← hW3]
    exact (setRow_other _ _ _ _ (by omega)).trans ((Box.new w _ _).alloc _)
  have hb3 : Below w.heap.size w W3 := by
    rw [← hW3]
    exact below_setRow (((Below.refl _ w).alloc (Nat.le_refl _) _).alloc (by simp) _) (by omega) _
  have hrun3 : (Builtin.copy_ #[22, 22] 3 #[.slice (some ⟨w.heap.size + 1, 0, none⟩) 5 5, .slice (some ⟨bl, ofs, none⟩) 1 cap]).run Tryd.prog ((w.alloc (.cells #[.int .i64 0, .int .i64 0, .int .i64 0, .int .i64 0, .int .i64 0] 85)).alloc (.cells #[.int .i64 0, .int .i64 0, .int .i64 0, .int .i64 0, .int .i64 0] 85)) = .ok (.int .i64 1) W3 := by rw [← hW3]; exact hrun
  have d0 : W3.cell? ⟨w.heap.size + 1, 0, none⟩ = _ := b1.cell 0
  have d1 : W3.cell? ⟨w.heap.size + 1, 1, none⟩ = _ := b1.cell 1
  have d2 : W3.cell? ⟨w.heap.size + 1, 2, none⟩ = _ := b1.cell 2
  have d3 : W3.cell? ⟨w.heap.size + 1, 3, none⟩ = _ := b1.cell 3
  have d4 : W3.cell? ⟨w.heap.size + 1, 4, none⟩ = _ := b1.cell 4
  have e0 : W3.cell? ⟨w.heap.size, 0, none⟩ = _ := b0.cell 0
  have e1 : W3.cell? ⟨w.heap.size, 1, none⟩ = _ := b0.cell 1
  have e2 : W3.cell? ⟨w.heap.size, 2, none⟩ = _ := b0.cell 2
  have e3 : W3.cell? ⟨w.heap.size, 3, none⟩ = _ := b0.cell 3
  have e4 : W3.cell? ⟨w.heap.size, 4, none⟩ = _ := b0.cell 4
  have g0 := b0.open_ 0
  have g1 := b0.open_ 1
  have g2 := b0.open_ 2
  have g3 := b0.open_ 3
  have g4 := b0.open_ 4
  have HB3 := Lib.hid hb3
  have HB0 := Lib.hid b0
  clear hc W2 hrun b1 b0 hb3 hW3 src hx0
  go_enter Tryd.func58, Tryd.ntmps58
  go_wp2_with fail
  have b5 := ((((HB0.out.set 0 (.int .i64 x0)).set 1 (.int .i64 0)).set 2 (.int .i64 0)).set 3 (.int .i64 0)).set 4 (.int .i64 0)
  have hb5 : Below w.heap.size w _ := ((((HB3.out.setCell (p := ⟨w.heap.size, 0, none⟩) (Nat.le_refl _) (.int .i64 x0)).setCell (p := ⟨w.heap.size, 1, none⟩) (Nat.le_refl _) (.int .i64 0)).setCell (p := ⟨w.heap.size, 2, none⟩) (Nat.le_refl _) (.int .i64 0)).setCell (p := ⟨w.heap.size, 3, none⟩) (Nat.le_refl _) (.int .i64 0)).setCell (p := ⟨w.heap.size, 4, none⟩) (Nat.le_refl _) (.int .i64 0)
  clear d0 d1 d2 d3 d4 e0 e1 e2 e3 e4 g0 g1 g2 g3 g4 hrun3
  generalize (((((W3.setCell ⟨w.heap.size, 0, none⟩ (.int .i64 x0)).setCell ⟨w.heap.size, 1, none⟩ (.int .i64 0)).setCell ⟨w.heap.size, 2, none⟩ (.int .i64 0)).setCell ⟨w.heap.size, 3, none⟩ (.int .i64 0)).setCell ⟨w.heap.size, 4, none⟩ (.int .i64 0)) = W4 at b5 hb5 ⊢
  have f0 : W4.cell? ⟨w.heap.size, 0, none⟩ = some (.int .i64 x0) := b5.cell 0
  have f1 : W4.cell? ⟨w.heap.size, 1, none⟩ = some (.int .i64 0) := b5.cell 1
  have f2 : W4.cell? ⟨w.heap.size, 2, none⟩ = some (.int .i64 0) := b5.cell 2
  have f3 : W4.cell? ⟨w.heap.size, 3, none⟩ = some (.int .i64 0) := b5.cell 3
  have f4 : W4.cell? ⟨w.heap.size, 4, none⟩ = some (.int .i64 0) := b5.cell 4
  clear b5
  exact bodyPost_ret (v := .agg #[.int .i64 x0, .int .i64 0, .int .i64 0, .int .i64 0, .int .i64 0]) (by simp [results, Tryd.results58, go_sem, f0, f1, f2, f3, f4]) rfl ⟨rfl, hb5⟩

set_option maxRecDepth 100000 in
theorem key_2 (cap : Nat) (hcap : 2 ≤ cap) (o : Option Addr) (f : Nat → Int) (w : World) (hL : Lz w o 2 f) : Calls Tryd.prog 58 #[.slice o 2 cap] w fun e w' => e = .returned (pad 2 f) ∧ Below w.heap.size w w' := by
  obtain ⟨bl, ofs, rfl, hbl, hc⟩ := hL (by omega)
  have c0 := hc 0 (by omega)
  obtain ⟨x0, hx0⟩ : ∃ x, f 0 = x := ⟨_, rfl⟩
  rw [hx0] at c0
  have c1 := hc 1 (by omega)
  obtain ⟨x1, hx1⟩ : ∃ x, f 1 = x := ⟨_, rfl⟩
  rw [hx1] at c1
  have hpad : pad 2 f = .agg #[.int .i64 x0, .int .i64 x1, .int .i64 0, .int .i64 0, .int .i64 0] := by simp [pad, hx0, hx1]
  rw [hpad]
  have W2 : ∃ W, W = (w.alloc (.cells #[.int .i64 0, .int .i64 0, .int .i64 0, .int .i64 0, .int .i64 0] 85)).alloc (.cells #[.int .i64 0, .int .i64 0, .int .i64 0, .int .i64 0, .int .i64 0] 85) := ⟨_, rfl⟩
  have src : ∀ j v, [.int .i64 x0, .int .i64 x1][j]? = some v → ((w.alloc (.cells #[.int .i64 0, .int .i64 0, .int .i64 0, .int .i64 0, .int .i64 0] 85)).alloc (.cells #[.int .i64 0, .int .i64 0, .int .i64 0, .int .i64 0, .int .i64 0] 85)).cell? ((⟨bl, ofs, none⟩ : Addr).add j) = some v := by
    intro j v hv
    have hj : j < 2 := by
      have := (List.getElem?_eq_some_iff.1 hv).1
      simpa using this
    rw [addr_add, World.cell?_alloc_lt _ _ _ (by simp; omega), World.cell?_alloc_lt _ _ _ (by exact hbl)]
    match j, hj with
    | 0, _ => simp at hv; rw [← hv]; exact c0
    | 1, _ => simp at hv; rw [← hv]; exact c1
  have hrun := run_copy_row (P := Tryd.prog) ((w.alloc (.cells #[.int .i64 0, .int .i64 0, .int .i64 0, .int .i64 0, .int .i64 0] 85)).alloc (.cells #[.int .i64 0, .int .i64 0, .int .i64 0, .int .i64 0, .int .i64 0] 85)) 22 22 3 3 (w.heap.size + 1) 0 5 5 ⟨bl, ofs, none⟩ 2 cap #[.int .i64 0, .int .i64 0, .int .i64 0, .int .i64 0, .int .i64 0] 85 [.int .i64 x0, .int .i64 x1] Tryd.underlying22 (by kernel_rfl) (by have := Box.new (w.alloc (.cells #[.int .i64 0, .int .i64 0, .int .i64 0, .int .i64 0, .int .i64 0] 85)) #[.int .i64 0, .int .i64 0, .int .i64 0, .int .i64 0, .int .i64 0] 85; rw [World.size_alloc] at this; exact this) rfl src (by simp) (by simp [Value.oneCell'])
  obtain ⟨W3, hW3⟩ : ∃ W3, ((w.alloc (.cells #[.int .i64 0, .int .i64 0, .int .i64 0, .int .i64 0, .int .i64 0] 85)).alloc (.cells #[.int .i64 0, .int .i64 0, .int .i64 0, .int .i64 0, .int .i64 0] 85)).setRow (w.heap.size + 1) #[.int .i64 x0, .int .i64 x1, .int .i64 0, .int .i64 0, .int .i64 0] = W3 := ⟨_, rfl⟩
  have b1 : Box W3 (w.heap.size + 1) #[.int .i64 x0, .int .i64 x1, .int .i64 0, .int .i64 0, .int .i64 0] 85 := by
    rw [← hW3]
    exact setRow_heap _ _ #[.int .i64 0, .int .i64 0, .int .i64 0, .int .i64 0, .int .i64 0] _ 85 (0, 0) (by have := Box.new (w.alloc (.cells #[.int .i64 0, .int .i64 0, .int .i64 0, .int .i64 0, .int .i64 0] 85)) #[.int .i64 0, .int .i64 0, .int .i64 0, .int .i64 0, .int .i64 0] 85; rw [World.size_alloc] at this; exact this)
  have b0 : Box W3 w.heap.size #[.int .i64 0, .int .i64 0, .int .i64 0, .int .i64 0, .int .i64 0] 85 := by
    rw [← hW3]
    exact (setRow_other _ _ _ _ (by omega)).trans ((Box.new w _ _).alloc _)
  have hb3 : Below w.heap.size w W3 := by
    rw [← hW3]
    exact below_setRow (((Below.refl _ w).alloc (Nat.le_refl _) _).alloc (by simp) _) (by omega) _
  have hrun3 : (Builtin.copy_ #[22, 22] 3 #[.slice (some ⟨w.heap.size + 1, 0, none⟩) 5 5, .slice (some ⟨bl, ofs, none⟩) 2 cap]).run Tryd.prog ((w.alloc (.cells #[.int .i64 0, .int .i64 0, .int .i64 0, .int .i64 0, .int .i64 0] 85)).alloc (.cells #[.int .i64 0, .int .i64 0, .int .i64 0, .int .i64 0, .int .i64 0] 85)) = .ok (.int .i64 2) W3 := by rw [← hW3]; exact hrun
  have d0 : W3.cell? ⟨w.heap.size + 1, 0, none⟩ = _ := b1.cell 0
  have d1 : W3.cell? ⟨w.heap.size + 1, 1, none⟩ = _ := b1.cell 1
  have d2 : W3.cell? ⟨w.heap.size + 1, 2, none⟩ = _ := b1.cell 2
  have d3 : W3.cell? ⟨w.heap.size + 1, 3, none⟩ = _ := b1.cell 3
  have d4 : W3.cell? ⟨w.heap.size + 1, 4, none⟩ = _ := b1.cell 4
  have e0 : W3.cell? ⟨w.heap.size, 0, none⟩ = _ := b0.cell 0
  have e1 : W3.cell? ⟨w.heap.size, 1, none⟩ = _ := b0.cell 1
  have e2 : W3.cell? ⟨w.heap.size, 2, none⟩ = _ := b0.cell 2
  have e3 : W3.cell? ⟨w.heap.size, 3, none⟩ = _ := b0.cell 3
  have e4 : W3.cell? ⟨w.heap.size, 4, none⟩ = _ := b0.cell 4
  have g0 := b0.open_ 0
  have g1 := b0.open_ 1
  have g2 := b0.open_ 2
  have g3 := b0.open_ 3
  have g4 := b0.open_ 4
  have HB3 := Lib.hid hb3
  have HB0 := Lib.hid b0
  clear hc W2 hrun b1 b0 hb3 hW3 src hx0 hx1
  go_enter Tryd.func58, Tryd.ntmps58
  go_wp2_with fail
  have b5 := ((((HB0.out.set 0 (.int .i64 x0)).set 1 (.int .i64 x1)).set 2 (.int .i64 0)).set 3 (.int .i64 0)).set 4 (.int .i64 0)
  have hb5 : Below w.heap.size w _ := ((((HB3.out.setCell (p := ⟨w.heap.size, 0, none⟩) (Nat.le_refl _) (.int .i64 x0)).setCell (p := ⟨w.heap.size, 1, none⟩) (Nat.le_refl _) (.int .i64 x1)).setCell (p := ⟨w.heap.size, 2, none⟩) (Nat.le_refl _) (.int .i64 0)).setCell (p := ⟨w.heap.size, 3, none⟩) (Nat.le_refl _) (.int .i64 0)).setCell (p := ⟨w.heap.size, 4, none⟩) (Nat.le_refl _) (.int .i64 0)
  clear d0 d1 d2 d3 d4 e0 e1 e2 e3 e4 g0 g1 g2 g3 g4 hrun3
  generalize (((((W3.setCell ⟨w.heap.size, 0, none⟩ (.int .i64 x0)).setCell ⟨w.heap.size, 1, none⟩ (.int .i64 x1)).setCell ⟨w.heap.size, 2, none⟩ (.int .i64 0)).setCell ⟨w.heap.size, 3, none⟩ (.int .i64 0)).setCell ⟨w.heap.size, 4, none⟩ (.int .i64 0)) = W4 at b5 hb5 ⊢
  have f0 : W4.cell? ⟨w.heap.size, 0, none⟩ = some (.int .i64 x0) := b5.cell 0
  have f1 : W4.cell? ⟨w.heap.size, 1, none⟩ = some (.int .i64 x1) := b5.cell 1
  have f2 : W4.cell? ⟨w.heap.size, 2, none⟩ = some (.int .i64 0) := b5.cell 2
  have f3 : W4.cell? ⟨w.heap.size, 3, none⟩ = some (.int .i64 0) := b5.cell 3
  have f4 : W4.cell? ⟨w.heap.size, 4, none⟩ = some (.int .i64 0) := b5.cell 4
  clear b5
  exact bodyPost_ret (v := .agg #[.int .i64 x0, .int .i64 x1, .int .i64 0, .int .i64 0, .int .i64 0]) (by simp [results, Tryd.results58, go_sem, f0, f1, f2, f3, f4]) rfl ⟨rfl, hb5⟩

set_option maxRecDepth 100000 in
theorem key_3 (cap : Nat) (hcap : 3 ≤ cap) (o : Option Addr) (f : Nat → Int) (w : World) (hL : Lz w o 3 f) : Calls Tryd.prog 58 #[.slice o 3 cap] w fun e w' => e = .returned (pad 3 f) ∧ Below w.heap.size w w' := by
  obtain ⟨bl, ofs, rfl, hbl, hc⟩ := hL (by omega)
  have c0 := hc 0 (by omega)
  obtain ⟨x0, hx0⟩ : ∃ x, f 0 = x := ⟨_, rfl⟩
  rw [hx0] at c0
  have c1 := hc 1 (by omega)
  obtain ⟨x1, hx1⟩ : ∃ x, f 1 = x := ⟨_, rfl⟩
  rw [hx1] at c1
  have c2 := hc 2 (by omega)
  obtain ⟨x2, hx2⟩ : ∃ x, f 2 = x := ⟨_, rfl⟩
  rw [hx2] at c2
  have hpad : pad 3 f = .agg #[.int .i64 x0, .int .i64 x1, .int .i64 x2, .int .i64 0, .int .i64 0] := by simp [pad, hx0, hx1, hx2]
  rw [hpad]
  have W2 : ∃ W, W = (w.alloc (.cells #[.int .i64 0, .int .i64 0, .int .i64 0, .int .i64 0, .int .i64 0] 85)).alloc (.cells #[.int .i64 0, .int .i64 0, .int .i64 0, .int .i64 0, .int .i64 0] 85) := ⟨_, rfl⟩
  have src : ∀ j v, [.int .i64 x0, .int .i64 x1, .int .i64 x2][j]? = some v → ((w.alloc (.cells #[.int .i64 0, .int .i64 0, .int .i64 0, .int .i64 0, .int .i64 0] 85)).alloc (.cells #[.int .i64 0, .int .i64 0, .int .i64 0, .int .i64 0, .int .i64 0] 85)).cell? ((⟨bl, ofs, none⟩ : Addr).add j) = some v := by
    intro j v hv
    have hj : j < 3 := by
      have := (List.getElem?_eq_some_iff.1 hv).1
      simpa using this
    rw [addr_add, World.cell?_alloc_lt _ _ _ (by simp; omega), World.cell?_alloc_lt _ _ _ (by exact hbl)]
    match j, hj with
    | 0, _ => simp at hv; rw [← hv]; exact c0
    | 1, _ => simp at hv; rw [← hv]; exact c1
    | 2, _ => simp at hv; rw [← hv]; exact c2
  have hrun := run_copy_row (P := Tryd.prog) ((w.alloc (.cells #[.int .i64 0, .int .i64 0, .int .i64 0, .int .i64 0, .int .i64 0] 85)).alloc (.cells #[.int .i64 0, .int .i64 0, .int .i64 0, .int .i64 0, .int .i64 0] 85)) 22 22 3 3 (w.heap.size + 1) 0 5 5 ⟨bl, ofs, none⟩ 3 cap #[.int .i64 0, .int .i64 0, .int .i64 0, .int .i64 0, .int .i64 0] 85 [.int .i64 x0, .int .i64 x1, .int .i64 x2] Tryd.underlying22 (by kernel_rfl) (by have := Box.new (w.alloc (.cells #[.int .i64 0, .int .i64 0, .int .i64 0, .int .i64 0, .int .i64 0] 85)) #[.int .i64 0, .int .i64 0, .int .i64 0, .int .i64 0, .int .i64 0] 85; rw [World.size_alloc] at this; exact this) rfl src (by simp) (by simp [Value.oneCell'])
  obtain ⟨W3, hW3⟩ : ∃ W3, ((w.alloc (.cells #[.int .i64 0, .int .i64 0, .int .i64 0, .int .i64 0, .int .i64 0] 85)).alloc (.cells #[.int .i64 0, .int .i64 0, .int .i64 0, .int .i64 0, .int .i64 0] 85)).setRow (w.heap.size + 1) #[.int .i64 x0, .int .i64 x1, .int .i64 x2, .int .i64 0, .int .i64 0] = W3 := ⟨_, rfl⟩
  have b1 : Box W3 (w.heap.size + 1) #[.int .i64 x0, .int .i64 x1, .int .i64 x2, .int .i64 0, .int .i64 0] 85 := by
    rw [← hW3]
    exact setRow_heap _ _ #[.int .i64 0, .int .i64 0, .int .i64 0, .int .i64 0, .int .i64 0] _ 85 (0, 0) (by have := Box.new (w.alloc (.cells #[.int .i64 0, .int .i64 0, .int .i64 0, .int .i64 0, .int .i64 0] 85)) #[.int .i64 0, .int .i64 0, .int .i64 0, .int .i64 0, .int .i64 0] 85; rw [World.size_alloc] at this; exact this)
  have b0 : Box W3 w.heap.size #[.int .i64 0, .int .i64 0, .int .i64 0, .int .i64 0, .int .i64 0] 85 := by
    rw [← hW3]
    exact (setRow_other _ _ _ _ (by omega)).trans ((Box.new w _ _).alloc _)
  have hb3 : Below w.heap.size w W3 := by
    rw [← hW3]
    exact below_setRow (((Below.refl _ w).alloc (Nat.le_refl _) _).alloc (by simp) _) (by omega) _
  have hrun3 : (Builtin.copy_ #[22, 22] 3 #[.slice (some ⟨w.heap.size + 1, 0, none⟩) 5 5, .slice (some ⟨bl, ofs, none⟩) 3 cap]).run Tryd.prog ((w.alloc (.cells #[.int .i64 0, .int .i64 0, .int .i64 0, .int .i64 0, .int .i64 0] 85)).alloc (.cells #[.int .i64 0, .int .i64 0, .int .i64 0, .int .i64 0, .int .i64 0] 85)) = .ok (.int .i64 3) W3 := by rw [← hW3]; exact hrun
  have d0 : W3.cell? ⟨w.heap.size + 1, 0, none⟩ = _ := b1.cell 0
  have d1 : W3.cell? ⟨w.heap.size + 1, 1, none⟩ = _ := b1.cell 1
  have d2 : W3.cell? ⟨w.heap.size + 1, 2, none⟩ = _ := b1.cell 2
  have d3 : W3.cell? ⟨w.heap.size + 1, 3, none⟩ = _ := b1.cell 3
  have d4 : W3.cell? ⟨w.heap.size + 1, 4, none⟩ = _ := b1.cell 4
  have e0 : W3.cell? ⟨w.heap.size, 0, none⟩ = _ := b0.cell 0
  have e1 : W3.cell? ⟨w.heap.size, 1, none⟩ = _ := b0.cell 1
  have e2 : W3.cell? ⟨w.heap.size, 2, none⟩ = _ := b0.cell 2
  have e3 : W3.cell? ⟨w.heap.size, 3, none⟩ = _ := b0.cell 3
  have e4 : W3.cell? ⟨w.heap.size, 4, none⟩ = _ := b0.cell 4
  have g0 := b0.open_ 0
  have g1 := b0.open_ 1
  have g2 := b0.open_ 2
  have g3 := b0.open_ 3
  have g4 := b0.open_ 4
  have HB3 := Lib.hid hb3
  have HB0 := Lib.hid b0
  clear hc W2 hrun b1 b0 hb3 hW3 src hx0 hx1 hx2
  go_enter Tryd.func58, Tryd.ntmps58
  go_wp2_with fail
  have b5 := ((((HB0.out.set 0 (.int .i64 x0)).set 1 (.int .i64 x1)).set 2 (.int .i64 x2)).set 3 (.int .i64 0)).set 4 (.int .i64 0)
  have hb5 : Below w.heap.size w _ := ((((HB3.out.setCell (p := ⟨w.heap.size, 0, none⟩) (Nat.le_refl _) (.int .i64 x0)).setCell (p := ⟨w.heap.size, 1, none⟩) (Nat.le_refl _) (.int .i64 x1)).setCell (p := ⟨w.heap.size, 2, none⟩) (Nat.le_refl _) (.int .i64 x2)).setCell (p := ⟨w.heap.size, 3, none⟩) (Nat.le_refl _) (.int .i64 0)).setCell (p := ⟨w.heap.size, 4, none⟩) (Nat.le_refl _) (.int .i64 0)
  clear d0 d1 d2 d3 d4 e0 e1 e2 e3 e4 g0 g1 g2 g3 g4 hrun3
  generalize (((((W3.setCell ⟨w.heap.size, 0, none⟩ (.int .i64 x0)).setCell ⟨w.heap.size, 1, none⟩ (.int .i64 x1)).setCell ⟨w.heap.size, 2, none⟩ (.int .i64 x2)).setCell ⟨w.heap.size, 3, none⟩ (.int .i64 0)).setCell ⟨w.heap.size, 4, none⟩ (.int .i64 0)) = W4 at b5 hb5 ⊢
  have f0 : W4.cell? ⟨w.heap.size, 0, none⟩ = some (.int .i64 x0) := b5.cell 0
  have f1 : W4.cell? ⟨w.heap.size, 1, none⟩ = some (.int .i64 x1) := b5.cell 1
  have f2 : W4.cell? ⟨w.heap.size, 2, none⟩ = some (.int .i64 x2) := b5.cell 2
  have f3 : W4.cell? ⟨w.heap.size, 3, none⟩ = some (.int .i64 0) := b5.cell 3
  have f4 : W4.cell? ⟨w.heap.size, 4, none⟩ = some (.int .i64 0) := b5.cell 4
  clear b5
  exact bodyPost_ret (v := .agg #[.int .i64 x0, .int .i64 x1, .int .i64 x2, .int .i64 0, .int .i64 0]) (by simp [results, Tryd.results58, go_sem, f0, f1, f2, f3, f4]) rfl ⟨rfl, hb5⟩

set_option maxRecDepth 100000 in
theorem key_4 (cap : Nat) (hcap : 4 ≤ cap) (o : Option Addr) (f : Nat → Int) (w : World) (hL : Lz w o 4 f) : Calls Tryd.prog 58 #[.slice o 4 cap] w fun e w' => e = .returned (pad 4 f) ∧ Below w.heap.size w w' := by
  obtain ⟨bl, ofs, rfl, hbl, hc⟩ := hL (by omega)
  have c0 := hc 0 (by omega)
  obtain ⟨x0, hx0⟩ : ∃ x, f 0 = x := ⟨_, rfl⟩
  rw [hx0] at c0
  have c1 := hc 1 (by omega)
  obtain ⟨x1, hx1⟩ : ∃ x, f 1 = x := ⟨_, rfl⟩
  rw [hx1] at c1
  have c2 := hc 2 (by omega)
  obtain ⟨x2, hx2⟩ : ∃ x, f 2 = x := ⟨_, rfl⟩
  rw [hx2] at c2
  have c3 := hc 3 (by omega)
  obtain ⟨x3, hx3⟩ : ∃ x, f 3 = x := ⟨_, rfl⟩
  rw [hx3] at c3
  have hpad : pad 4 f = .agg #[.int .i64 x0, .int .i64 x1, .int .i64 x2, .int .i64 x3, .int .i64 0] := by simp [pad, hx0, hx1, hx2, hx3]
  rw [hpad]
  have W2 : ∃ W, W = (w.alloc (.cells #[.int .i64 0, .int .i64 0, .int .i64 0, .int .i64 0, .int .i64 0] 85)).alloc (.cells #[.int .i64 0, .int .i64 0, .int .i64 0, .int .i64 0, .int .i64 0] 85) := ⟨_, rfl⟩
  have src : ∀ j v, [.int .i64 x0, .int .i64 x1, .int .i64 x2, .int .i64 x3][j]? = some v → ((w.alloc (.cells #[.int .i64 0, .int .i64 0, .int .i64 0, .int .i64 0, .int .i64 0] 85)).alloc (.cells #[.int .i64 0, .int .i64 0, .int .i64 0, .int .i64 0, .int .i64 0] 85)).cell? ((⟨bl, ofs, none⟩ : Addr).add j) = some v := by
    intro j v hv
    have hj : j < 4 := by
      have := (List.getElem?_eq_some_iff.1 hv).1
      simpa using this
    rw [addr_add, World.cell?_alloc_lt _ _ _ (by simp; omega), World.cell?_alloc_lt _ _ _ (by exact hbl)]
    match j, hj with
    | 0, _ => simp at hv; rw [← hv]; exact c0
    | 1, _ => simp at hv; rw [← hv]; exact c1
    | 2, _ => simp at hv; rw [← hv]; exact c2
    | 3, _ => simp at hv; rw [← hv]; exact c3
  have hrun := run_copy_row (P := Tryd.prog) ((w.alloc (.cells #[.int .i64 0, .int .i64 0, .int .i64 0, .int .i64 0, .int .i64 0] 85)).alloc (.cells #[.int .i64 0, .int .i64 0, .int .i64 0, .int .i64 0, .int .i64 0] 85)) 22 22 3 3 (w.heap.size + 1) 0 5 5 ⟨bl, ofs, none⟩ 4 cap #[.int .i64 0, .int .i64 0, .int .i64 0, .int .i64 0, .int .i64 0] 85 [.int .i64 x0, .int .i64 x1, .int .i64 x2, .int .i64 x3] Tryd.underlying22 (by kernel_rfl) (by have := Box.new (w.alloc (.cells #[.int .i64 0, .int .i64 0, .int .i64 0, .int .i64 0, .int .i64 0] 85)) #[.int .i64 0, .int .i64 0, .int .i64 0, .int .i64 0, .int .i64 0] 85; rw [World.size_alloc] at this; exact this) rfl src (by simp) (by simp [Value.oneCell'])
  obtain ⟨W3, hW3⟩ : ∃ W3, ((w.alloc (.cells #[.int .i64 0, .int .i64 0, .int .i64 0, .int .i64 0, .int .i64 0] 85)).alloc (.cells #[.int .i64 0, .int .i64 0, .int .i64 0, .int .i64 0, .int .i64 0] 85)).setRow (w.heap.size + 1) #[.int .i64 x0, .int .i64 x1, .int .i64 x2, .int .i64 x3, .int .i64 0] = W3 := ⟨_, rfl⟩
  have b1 : Box W3 (w.heap.size + 1) #[.int .i64 x0, .int .i64 x1, .int .i64 x2, .int .i64 x3, .int .i64 0] 85 := by
    rw [← hW3]
    exact setRow_heap _ _ #[.int .i64 0, .int .i64 0, .int .i64 0, .int .i64 0, .int .i64 0] _ 85 (0, 0) (by have := Box.new (w.alloc (.cells #[.int .i64 0, .int .i64 0, .int .i64 0, .int .i64 0, .int .i64 0] 85)) #[.int .i64 0, .int .i64 0, .int .i64 0, .int .i64 0, .int .i64 0] 85; rw [World.size_alloc] at this; exact this)
  have b0 : Box W3 w.heap.size #[.int .i64 0, .int .i64 0, .int .i64 0, .int .i64 0, .int .i64 0] 85 := by
    rw [← hW3]
    exact (setRow_other _ _ _ _ (by omega)).trans ((Box.new w _ _).alloc _)
  have hb3 : Below w.heap.size w W3 := by
    rw [← hW3]
    exact below_setRow (((Below.refl _ w).alloc (Nat.le_refl _) _).alloc (by simp) _) (by omega) _
  have hrun3 : (Builtin.copy_ #[22, 22] 3 #[.slice (some ⟨w.heap.size + 1, 0, none⟩) 5 5, .slice (some ⟨bl, ofs, none⟩) 4 cap]).run Tryd.prog ((w.alloc (.cells #[.int .i64 0, .int .i64 0, .int .i64 0, .int .i64 0, .int .i64 0] 85)).alloc (.cells #[.int .i64 0, .int .i64 0, .int .i64 0, .int .i64 0, .int .i64 0] 85)) = .ok (.int .i64 4) W3 := by rw [← hW3]; exact hrun
  have d0 : W3.cell? ⟨w.heap.size + 1, 0, none⟩ = _ := b1.cell 0
  have d1 : W3.cell? ⟨w.heap.size + 1, 1, none⟩ = _ := b1.cell 1
  have d2 : W3.cell? ⟨w.heap.size + 1, 2, none⟩ = _ := b1.cell 2
  have d3 : W3.cell? ⟨w.heap.size + 1, 3, none⟩ = _ := b1.cell 3
  have d4 : W3.cell? ⟨w.heap.size + 1, 4, none⟩ = _ := b1.cell 4
  have e0 : W3.cell? ⟨w.heap.size, 0, none⟩ = _ := b0.cell 0
  have e1 : W3.cell? ⟨w.heap.size, 1, none⟩ = _ := b0.cell 1
  have e2 : W3.cell? ⟨w.heap.size, 2, none⟩ = _ := b0.cell 2
  have e3 : W3.cell? ⟨w.heap.size, 3, none⟩ = _ := b0.cell 3
  have e4 : W3.cell? ⟨w.heap.size, 4, none⟩ = _ := b0.cell 4
  have g0 := b0.open_ 0
  have g1 := b0.open_ 1
  have g2 := b0.open_ 2
  have g3 := b0.open_ 3
  have g4 := b0.open_ 4
  have HB3 := Lib.hid hb3
  have HB0 := Lib.hid b0
  clear hc W2 hrun b1 b0 hb3 hW3 src hx0 hx1 hx2 hx3
  go_enter Tryd.func58, Tryd.ntmps58
  go_wp2_with fail
  have b5 := ((((HB0.out.set 0 (.int .i64 x0)).set 1 (.int .i64 x1)).set 2 (.int .i64 x2)).set 3 (.int .i64 x3)).set 4 (.int .i64 0)
  have hb5 : Below w.heap.size w _ := ((((HB3.out.setCell (p := ⟨w.heap.size, 0, none⟩) (Nat.le_refl _) (.int .i64 x0)).setCell (p := ⟨w.heap.size, 1, none⟩) (Nat.le_refl _) (.int .i64 x1)).setCell (p := ⟨w.heap.size, 2, none⟩) (Nat.le_refl _) (.int .i64 x2)).setCell (p := ⟨w.heap.size, 3, none⟩) (Nat.le_refl _) (.int .i64 x3)).setCell (p := ⟨w.heap.size, 4, none⟩) (Nat.le_refl _) (.int .i64 0)
  clear d0 d1 d2 d3 d4 e0 e1 e2 e3 e4 g0 g1 g2 g3 g4 hrun3
  generalize (((((W3.setCell ⟨w.heap.size, 0, none⟩ (.int .i64 x0)).setCell ⟨w.heap.size, 1, none⟩ (.int .i64 x1)).setCell ⟨w.heap.size, 2, none⟩ (.int .i64 x2)).setCell ⟨w.heap.size, 3, none⟩ (.int .i64 x3)).setCell ⟨w.heap.size, 4, none⟩ (.int .i64 0)) = W4 at b5 hb5 ⊢
  have f0 : W4.cell? ⟨w.heap.size, 0, none⟩ = some (.int .i64 x0) := b5.cell 0
  have f1 : W4.cell? ⟨w.heap.size, 1, none⟩ = some (.int .i64 x1) := b5.cell 1
  have f2 : W4.cell? ⟨w.heap.size, 2, none⟩ = some (.int .i64 x2) := b5.cell 2
  have f3 : W4.cell? ⟨w.heap.size, 3, none⟩ = some (.int .i64 x3) := b5.cell 3
  have f4 : W4.cell? ⟨w.heap.size, 4, none⟩ = some (.int .i64 0) := b5.cell 4
  clear b5
  exact bodyPost_ret (v := .agg #[.int .i64 x0, .int .i64 x1, .int .i64 x2, .int .i64 x3, .int .i64 0]) (by simp [results, Tryd.results58, go_sem, f0, f1, f2, f3, f4]) rfl ⟨rfl, hb5⟩

set_option maxRecDepth 100000 in
theorem key_5 (cap : Nat) (hcap : 5 ≤ cap) (o : Option Addr) (f : Nat → Int) (w : World) (hL : Lz w o 5 f) : Calls Tryd.prog 58 #[.slice o 5 cap] w fun e w' => e = .returned (pad 5 f) ∧ Below w.heap.size w w' := by
  obtain ⟨bl, ofs, rfl, hbl, hc⟩ := hL (by omega)
  have c0 := hc 0 (by omega)
  obtain ⟨x0, hx0⟩ : ∃ x, f 0 = x := ⟨_, rfl⟩
  rw [hx0] at c0
  have c1 := hc 1 (by omega)
  obtain ⟨x1, hx1⟩ : ∃ x, f 1 = x := ⟨_, rfl⟩
  rw [hx1] at c1
  have c2 := hc 2 (by omega)
  obtain ⟨x2, hx2⟩ : ∃ x, f 2 = x := ⟨_, rfl⟩
  rw [hx2] at c2
  have c3 := hc 3 (by omega)
  obtain ⟨x3, hx3⟩ : ∃ x, f 3 = x := ⟨_, rfl⟩
  rw [hx3] at c3
  have c4 := hc 4 (by omega)
  obtain ⟨x4, hx4⟩ : ∃ x, f 4 = x := ⟨_, rfl⟩
  rw [hx4] at c4
  have hpad : pad 5 f = .agg #[.int .i64 x0, .int .i64 x1, .int .i64 x2, .int .i64 x3, .int .i64 x4] := by simp [pad, hx0, hx1, hx2, hx3, hx4]
  rw [hpad]
  have W2 : ∃ W, W = (w.alloc (.cells #[.int .i64 0, .int .i64 0, .int .i64 0, .int .i64 0, .int .i64 0] 85)).alloc (.cells #[.int .i64 0, .int .i64 0, .int .i64 0, .int .i64 0, .int .i64 0] 85) := ⟨_, rfl⟩
  have src : ∀ j v, [.int .i64 x0, .int .i64 x1, .int .i64 x2, .int .i64 x3, .int .i64 x4][j]? = some v → ((w.alloc (.cells #[.int .i64 0, .int .i64 0, .int .i64 0, .int .i64 0, .int .i64 0] 85)).alloc (.cells #[.int .i64 0, .int .i64 0, .int .i64 0, .int .i64 0, .int .i64 0] 85)).cell? ((⟨bl, ofs, none⟩ : Addr).add j) = some v := by
    intro j v hv
    have hj : j < 5 := by
      have := (List.getElem?_eq_some_iff.1 hv).1
      simpa using this
    rw [addr_add, World.cell?_alloc_lt _ _ _ (by simp; omega), World.cell?_alloc_lt _ _ _ (by exact hbl)]
    match j, hj with
    | 0, _ => simp at hv; rw [← hv]; exact c0
    | 1, _ => simp at hv; rw [← hv]; exact c1
    | 2, _ => simp at hv; rw [← hv]; exact c2
    | 3, _ => simp at hv; rw [← hv]; exact c3
    | 4, _ => simp at hv; rw [← hv]; exact c4
  have hrun := run_copy_row (P := Tryd.prog) ((w.alloc (.cells #[.int .i64 0, .int .i64 0, .int .i64 0, .int .i64 0, .int .i64 0] 85)).alloc (.cells #[.int .i64 0, .int .i64 0, .int .i64 0, .int .i64 0, .int .i64 0] 85)) 22 22 3 3 (w.heap.size + 1) 0 5 5 ⟨bl, ofs, none⟩ 5 cap #[.int .i64 0, .int .i64 0, .int .i64 0, .int .i64 0, .int .i64 0] 85 [.int .i64 x0, .int .i64 x1, .int .i64 x2, .int .i64 x3, .int .i64 x4] Tryd.underlying22 (by kernel_rfl) (by have := Box.new (w.alloc (.cells #[.int .i64 0, .int .i64 0, .int .i64 0, .int .i64 0, .int .i64 0] 85)) #[.int .i64 0, .int .i64 0, .int .i64 0, .int .i64 0, .int .i64 0] 85; rw [World.size_alloc] at this; exact this) rfl src (by simp) (by simp [Value.oneCell'])
  obtain ⟨W3, hW3⟩ : ∃ W3, ((w.alloc (.cells #[.int .i64 0, .int .i64 0, .int .i64 0, .int .i64 0, .int .i64 0] 85)).alloc (.cells #[.int .i64 0, .int .i64 0, .int .i64 0, .int .i64 0, .int .i64 0] 85)).setRow (w.heap.size + 1) #[.int .i64 x0, .int .i64 x1, .int .i64 x2, .int .i64 x3, .int .i64 x4] = W3 := ⟨_, rfl⟩
  have b1 : Box W3 (w.heap.size + 1) #[.int .i64 x0, .int .i64 x1, .int .i64 x2, .int .i64 x3, .int .i64 x4] 85 := by
    rw [← hW3]
    exact setRow_heap _ _ #[.int .i64 0, .int .i64 0, .int .i64 0, .int .i64 0, .int .i64 0] _ 85 (0, 0) (by have := Box.new (w.alloc (.cells #[.int .i64 0, .int .i64 0, .int .i64 0, .int .i64 0, .int .i64 0] 85)) #[.int .i64 0, .int .i64 0, .int .i64 0, .int .i64 0, .int .i64 0] 85; rw [World.size_alloc] at this; exact this)
  have b0 : Box W3 w.heap.size #[.int .i64 0, .int .i64 0, .int .i64 0, .int .i64 0, .int .i64 0] 85 := by
    rw [← hW3]
    exact (setRow_other _ _ _ _ (by omega)).trans ((Box.new w _ _).alloc _)
  have hb3 : Below w.heap.size w W3 := by
    rw [← hW3]
    exact below_setRow (((Below.refl _ w).alloc (Nat.le_refl _) _).alloc (by simp) _) (by omega) _
  have hrun3 : (Builtin.copy_ #[22, 22] 3 #[.slice (some ⟨w.heap.size + 1, 0, none⟩) 5 5, .slice (some ⟨bl, ofs, none⟩) 5 cap]).run Tryd.prog ((w.alloc (.cells #[.int .i64 0, .int .i64 0, .int .i64 0, .int .i64 0, .int .i64 0] 85)).alloc (.cells #[.int .i64 0, .int .i64 0, .int .i64 0, .int .i64 0, .int .i64 0] 85)) = .ok (.int .i64 5) W3 := by rw [← hW3]; exact hrun
  have d0 : W3.cell? ⟨w.heap.size + 1, 0, none⟩ = _ := b1.cell 0
  have d1 : W3.cell? ⟨w.heap.size + 1, 1, none⟩ = _ := b1.cell 1
  have d2 : W3.cell? ⟨w.heap.size + 1, 2, none⟩ = _ := b1.cell 2
  have d3 : W3.cell? ⟨w.heap.size + 1, 3, none⟩ = _ := b1.cell 3
  have d4 : W3.cell? ⟨w.heap.size + 1, 4, none⟩ = _ := b1.cell 4
  have e0 : W3.cell? ⟨w.heap.size, 0, none⟩ = _ := b0.cell 0
  have e1 : W3.cell? ⟨w.heap.size, 1, none⟩ = _ := b0.cell 1
  have e2 : W3.cell? ⟨w.heap.size, 2, none⟩ = _ := b0.cell 2
  have e3 : W3.cell? ⟨w.heap.size, 3, none⟩ = _ := b0.cell 3
  have e4 : W3.cell? ⟨w.heap.size, 4, none⟩ = _ := b0.cell 4
  have g0 := b0.open_ 0
  have g1 := b0.open_ 1
  have g2 := b0.open_ 2
  have g3 := b0.open_ 3
  have g4 := b0.open_ 4
  have HB3 := Lib.hid hb3
  have HB0 := Lib.hid b0
  clear hc W2 hrun b1 b0 hb3 hW3 src hx0 hx1 hx2 hx3 hx4
  go_enter Tryd.func58, Tryd.ntmps58
  go_wp2_with fail
  have b5 := ((((HB0.out.set 0 (.int .i64 x0)).set 1 (.int .i64 x1)).set 2 (.int .i64 x2)).set 3 (.int .i64 x3)).set 4 (.int .i64 x4)
  have hb5 : Below w.heap.size w _ := ((((HB3.out.setCell (p := ⟨w.heap.size, 0, none⟩) (Nat.le_refl _) (.int .i64 x0)).setCell (p := ⟨w.heap.size, 1, none⟩) (Nat.le_refl _) (.int .i64 x1)).setCell (p := ⟨w.heap.size, 2, none⟩) (Nat.le_refl _) (.int .i64 x2)).setCell (p := ⟨w.heap.size, 3, none⟩) (Nat.le_refl _) (.int .i64 x3)).setCell (p := ⟨w.heap.size, 4, none⟩) (Nat.le_refl _) (.int .i64 x4)
  clear d0 d1 d2 d3 d4 e0 e1 e2 e3 e4 g0 g1 g2 g3 g4 hrun3
  generalize (((((W3.setCell ⟨w.heap.size, 0, none⟩ (.int .i64 x0)).setCell ⟨w.heap.size, 1, none⟩ (.int .i64 x1)).setCell ⟨w.heap.size, 2, none⟩ (.int .i64 x2)).setCell ⟨w.heap.size, 3, none⟩ (.int .i64 x3)).setCell ⟨w.heap.size, 4, none⟩ (.int .i64 x4)) = W4 at b5 hb5 ⊢
  have f0 : W4.cell? ⟨w.heap.size, 0, none⟩ = some (.int .i64 x0) := b5.cell 0
  have f1 : W4.cell? ⟨w.heap.size, 1, none⟩ = some (.int .i64 x1) := b5.cell 1
  have f2 : W4.cell? ⟨w.heap.size, 2, none⟩ = some (.int .i64 x2) := b5.cell 2
  have f3 : W4.cell? ⟨w.heap.size, 3, none⟩ = some (.int .i64 x3) := b5.cell 3
  have f4 : W4.cell? ⟨w.heap.size, 4, none⟩ = some (.int .i64 x4) := b5.cell 4
  clear b5
  exact bodyPost_ret (v := .agg #[.int .i64 x0, .int .i64 x1, .int .i64 x2, .int .i64 x3, .int .i64 x4]) (by simp [results, Tryd.results58, go_sem, f0, f1, f2, f3, f4]) rfl ⟨rfl, hb5⟩

theorem key_ok (n : Nat) (h1 : 1 ≤ n) (h5 : n ≤ 5) (cap : Nat) (hcap : n ≤ cap) (o : Option Addr) (f : Nat → Int) (w : World) (hL : Lz w o n f) : Calls Tryd.prog 58 #[.slice o n cap] w fun e w' => e = .returned (pad n f) ∧ Below w.heap.size w w' := by
  obtain rfl | rfl | rfl | rfl | rfl : n = 1 ∨ n = 2 ∨ n = 3 ∨ n = 4 ∨ n = 5 := by omega
  · exact key_1 cap hcap o f w hL
  · exact key_2 cap hcap o f w hL
  · exact key_3 cap hcap o f w hL
  · exact key_4 cap hcap o f w hL
  · exact key_5 cap hcap o f w hL

/-! ### Keys of the map -/
theorem law5 : Maps.Keyed Tryd.prog 85 := Maps.Keyed.of_law (deep_law_laid laidOut (m := 5) (by omega) (of_decide_eq_true (by kernel_rfl)) (by kernel_rfl) (by kernel_rfl))
theorem zero4 (w : World) : (zeroValue 4).run Tryd.prog w = .ok (.bool false) w := by kernel_rfl
/-- The key of a list of numbers. -/
def kv (l : List Nat) : Value := pad 5 (zf (fun_ l))
theorem pad_eq {n : Nat} {f : Nat → Int} {l : List Nat} (hl : l.length = n) (hf : ∀ i, i < n → f i = zf (fun_ l) i) : pad n f = kv l := by
  have key : ∀ i, (if i < n then f i else 0) = zf (fun_ l) i := by
    intro i
    by_cases h : i < n
    · rw [if_pos h]; exact hf i h
    · rw [if_neg h]
      unfold zf fun_
      rw [List.getD_eq_getElem?_getD, List.getElem?_eq_none (by omega)]; rfl
  have k2 : ∀ i, i < 5 → (if i < 5 then zf (fun_ l) i else 0) = zf (fun_ l) i := fun i hi => if_pos hi
  unfold kv pad
  rw [key 0, key 1, key 2, key 3, key 4, k2 0 (by omega), k2 1 (by omega), k2 2 (by omega), k2 3 (by omega), k2 4 (by omega)]
/-- Numbers below five. -/
def Small (l : List Nat) : Prop := ∀ i, fun_ l i < 5
noncomputable def kl (l : List Nat) : Lit := (keyOf Tryd.prog 85 (kv l)).getD .nil
set_option maxRecDepth 100000 in
theorem kl_some {l : List Nat} (h : Small l) : keyOf Tryd.prog 85 (kv l) = some (kl l) := by
  have hs : ∃ r, keyOf Tryd.prog 85 (kv l) = some r := by
    have hw : ∀ i, (Lit.int .i64 (zf (fun_ l) i)).wf = true := fun i => In64.wf (by have := h i; unfold In64 zf; omega)
    have h0 := hw 0
    have h1 := hw 1
    have h2 := hw 2
    have h3 := hw 3
    have h4 := hw 4
    have hk : Tryd.prog.keyType 85 = true := by kernel_rfl
    have hc : Tryd.prog.cellsOf 85 = 5 := by kernel_rfl
    have hc3 : Tryd.prog.cellsOf 3 = 1 := by kernel_rfl
    have hsz : ∃ m, Tryd.prog.types.size = m + 1 := ⟨Tryd.prog.types.size - 1, by kernel_rfl⟩
    obtain ⟨m, hm⟩ := hsz
    unfold keyOf
    rw [Tryd.underlying85]
    simp only [hk, hm]
    simp [kv, pad, Value.formed, Tryd.underlying85, hc, Value.cells, Program.keyLits, hc3, Tryd.underlying3, List.range_succ, h0, h1, h2, h3, h4]
  obtain ⟨r, hr⟩ := hs
  unfold kl
  rw [hr]; rfl
set_option maxRecDepth 100000 in
theorem kl_inj {n : Nat} {l m : List Nat} (hn : n ≤ 5) (h1 : l.length = n) (h2 : m.length = n) (hl : Small l) (hm : Small m) (h : kl l = kl m) : l = m := by
  have e := law5.inj (kl_some hl) (h ▸ kl_some hm)
  simp [kv, pad, zf] at e
  obtain ⟨e0, e1, e2, e3, e4⟩ := e
  apply List.ext_getElem (by omega)
  intro i hi hi'
  have key : fun_ l i = fun_ m i := by
    obtain rfl | rfl | rfl | rfl | rfl : i = 0 ∨ i = 1 ∨ i = 2 ∨ i = 3 ∨ i = 4 := by omega
    · omega
    · omega
    · omega
    · omega
    · omega
  unfold fun_ at key
  rw [List.getD_eq_getElem?_getD, List.getD_eq_getElem?_getD, List.getElem?_eq_getElem hi, List.getElem?_eq_getElem hi'] at key
  exact key
set_option maxRecDepth 100000 in
theorem kl_key {l : List Nat} (h : Small l) : WideAt.IsKeyLit (kl l) := law5.key (kl_some h)
attribute [irreducible] kl kv
/-- How the elements read. -/
def boolR : Value → Option (DataW Unit × List MemPlace)
  | .bool x => some (.lit (.bool x), [])
  | _ => none
theorem boolR_inv {v : Value} {d : DataW Unit} {ps : List MemPlace} (h : boolR v = some (d, ps)) : ∃ x, v = .bool x ∧ d = .lit (.bool x) := by
  cases v <;> simp [boolR] at h
  exact ⟨_, rfl, h.1.symm⟩
/-- The map holds true at the lists of G, among the lists of length n. -/
structure Found (n : Nat) (D : DataW Unit) (G : List (List Nat)) : Prop where
  tidy : Maps.Tidy D
  at_ : ∀ l : List Nat, l.length = n → Small l → D.atKey (kl l) (.lit (.bool false)) = .lit (.bool (decide (l ∈ G)))
theorem Found.nil (n : Nat) : Found n (.map []) [] := ⟨Maps.tidy_empty, fun l _ _ => by simp [DataW.atKey]⟩
set_option maxRecDepth 100000 in
theorem Found.snoc {n : Nat} (hn : n ≤ 5) {D : DataW Unit} {G : List (List Nat)} (h : Found n D G) {l : List Nat} (hl : l.length = n) (hs : Small l) : Found n (D.put (kl l) (.lit (.bool true))) (G ++ [l]) := by
  refine ⟨h.tidy.put (kl_key hs) _, fun m hm hsm => ?_⟩
  by_cases e : m = l
  · subst e
    rw [Maps.atKey_put_same h.tidy.isMap (kl_key hs)]
    simp
  · rw [Maps.atKey_put_other (fun e2 => e (kl_inj hn hm hl hsm hs e2)), h.at_ m hm hsm]
    congr 2
    simp [e]
set_option maxRecDepth 100000 in
/-- A look-up without the second result, at elements that are bools. -/
theorem wpList_lookup_bool (w : World) {ops : Array Oper} {rest : List Oper} {o : Oper} {a : Act} {Q : Exit → Act → World → Prop}
    (hg : o.guard = none) (m x : Operand) (hop : o.op = Op.lookup 87 m x false) (n b k : Nat) (D : DataW Unit) (G : List (List Nat)) (hF : Found n D G)
    (hm : a.eval m = .map (some b)) (hown : w.ownsMap Tryd.prog 85 boolR b k D) (l : List Nat) (hl : l.length = n) (hs : Small l) (hx : a.eval x = kv l)
    (hK : wpList Tryd.prog ops Q rest (a.put o.dst (.bool (decide (l ∈ G)))) w) : wpList Tryd.prog ops Q (o :: rest) a w := by
  refine wpList_plain hg fun K' hK' => ?_
  obtain ⟨v, ps, hrun, hv⟩ := hown.lookup law5 Tryd.underlying87 (zero4 w) (zd := .lit (.bool false)) (zp := []) rfl (kl_some hs)
  rw [hF.at_ l hl hs] at hv
  obtain ⟨c, rfl, hc⟩ := boolR_inv hv
  have e : c = decide (l ∈ G) := by simpa using hc.symm
  subst e
  unfold Oper.wp
  simp [execOp, hop, hm, hx, hrun, Result.andThen]
  exact hK' _ _ hK
set_option maxRecDepth 100000 in
/-- A store of true; a literal's entry likewise. -/
theorem wpList_found (w : World) {ops : Array Oper} {rest : List Oper} {o : Oper} {a : Act} {Q : Exit → Act → World → Prop}
    (hg : o.guard = none) (m x v : Operand) (hop : o.op = Op.mapUpdate 87 m x v ∨ o.op = Op.insert 87 m x v) (n b k : Nat) (hn : n ≤ 5) (hk : k < 1000000) (D : DataW Unit) (G : List (List Nat)) (hF : Found n D G)
    (hm : a.eval m = .map (some b)) (hown : w.ownsMap Tryd.prog 85 boolR b k D) (l : List Nat) (hl : l.length = n) (hs : Small l) (hx : a.eval x = kv l) (hv : a.eval v = .bool true)
    (hK : ∀ w', w'.ownsMap Tryd.prog 85 boolR b (k + 1) (D.put (kl l) (.lit (.bool true))) → Found n (D.put (kl l) (.lit (.bool true))) (G ++ [l]) → w.grownBy w' (some b) → wpList Tryd.prog ops Q rest (a.put o.dst undef) w') : wpList Tryd.prog ops Q (o :: rest) a w := by
  refine wpList_plain hg fun K' hK' => ?_
  obtain ⟨w', hrun, r1, r2⟩ := hown.update law5 Tryd.underlying87 (by unfold maxLen; omega) (val := .bool true) (d := .lit (.bool true)) (ps := []) (kl_some hs) rfl
  have h2 := hK w' r1 (hF.snoc hn hl hs) r2
  unfold Oper.wp
  rcases hop with hop | hop
  · simp [execOp, hop, hm, hx, hv, hrun, Result.andThen]
    exact hK' _ _ h2
  · simp [execOp, hop, hm, hx, hv, hrun, Result.andThen]
    exact hK' _ _ h2

end Go.Proofs.YtgppdbiimlbpjaaDoor
