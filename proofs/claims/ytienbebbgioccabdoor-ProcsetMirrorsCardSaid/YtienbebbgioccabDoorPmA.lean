/- What ProcsetMirrors wants in plain numbers. -/
import Derived.Test.YtienbebbgioccabDoorPsK
import Derived.WalkKit
import Derived.WalkSpells
import Derived.WalkLawsBesides
import Derived.Handy
import Derived.Deep.QuietTactic
import Derived.BigQuiet
import Derived.Outline
import Derived.Laws.BitsAllLaws
import Derived.IntWalk
import Derived.Lib.SmallJoins
import Derived.Lib.Hide
import Derived.Deep.DeepCutAuto
import Derived.LoopTactic
import Derived.Deep.RegionWith
namespace Go.Proofs.YtienbebbgioccabDoor
set_option linter.unusedVariables false
set_option linter.unusedSimpArgs false
open Go.RowKit

def chn (S k : Nat) : List Nat := cho S (k : Int)
theorem num_le (S : Nat) : num S ≤ 5 := memb_le S 5
theorem mirF_len : ∀ S : Fin 32, ∀ k : Fin 6, k.val ≤ num S.val → (chn S.val k.val).length = (chn S.val (num S.val - k.val)).length ∧ 1 ≤ (chn S.val k.val).length ∧ (chn S.val k.val).length ≤ 10 := by decide +kernel
theorem mirF_at : ∀ S : Fin 32, ∀ k : Fin 6, k.val ≤ num S.val → ∀ i : Fin 10, (h : i.val < (chn S.val k.val).length) → (chn S.val (num S.val - k.val)).getD ((chn S.val k.val).length - 1 - i.val) 0 + (chn S.val k.val)[i.val] = S.val := by decide +kernel
theorem leaF_zero : ∀ S : Fin 32, num S.val = 0 → lea S.val = (0, 16) := by decide +kernel
theorem leaF : ∀ N : Fin 6, ∀ S : Fin 32, S.val < 2 ^ N.val → num S.val ≠ 0 → (lea S.val).2 = 0 ∧ 0 ≤ (lea S.val).1 ∧ (lea S.val).1 < (N.val : Int) ∧ (lea S.val).1 < 5 ∧ bits .and .i64 ((S.val : Int) / (2 : Int) ^ (lea S.val).1.toNat) 1 = 1 ∧ bits .and .i64 (S.val : Int) ((2 : Int) ^ (lea S.val).1.toNat - 1) = 0 := by decide +kernel
theorem pbad (n s : Int) : (∃ c : Int, c ≠ 0 ∧ ∀ w, Calls Tryd.prog 8 #[.int .i64 n, .int .i64 s] w fun e w' => e = .returned (.int .i64 c) ∧ w = w') ∨ ∃ N S : Nat, n = (N : Int) ∧ s = (S : Int) ∧ SOk N S := by
  rcases pcases n s with h | h | h
  · exact .inl ⟨1, by decide, fun w => pchk_n n s h w⟩
  · exact .inl ⟨2, by decide, fun w => pchk_s n s h w⟩
  · exact .inr h
theorem lies_some {w : World} {v : Value} {l : List Nat} (h : LiesI w v l) (h1 : 1 ≤ l.length) : ∃ g cap, v = .slice (some ⟨g, 0, none⟩) l.length cap ∧ g < w.heap.size ∧ ∀ V i, Below w.heap.size w V → (h : i < l.length) → V.cell? ⟨g, i, none⟩ = some (.int .i64 (l[i] : Int)) := by
  rcases h.form with ⟨_, h0⟩ | ⟨g, cap, h2, h3, _, h4⟩
  · omega
  · exact ⟨g, cap, h2, h3, h4⟩
/-- What a law wants of its first world. -/
structure Good (w : World) : Prop where
  tab : Tab w
  lt : 3 < w.heap.size
  int : ∃ m, w.cell? ⟨3, 0, none⟩ = some (.int .i64 m)
theorem Good.below {w W : World} (h : Good w) (hb : Below w.heap.size w W) : Good W :=
  ⟨h.tab.below hb (by have := h.lt; omega), Nat.lt_of_lt_of_le h.lt hb.size, h.int.imp fun m hm => int_cell hm h.lt hb⟩
theorem awake_good (w : World) (h : Good w) : Calls Tryd.prog 5 #[] w fun e w' => e = .returned (.bool true) ∧ Below w.heap.size w w' := by
  obtain ⟨m, hm⟩ := h.int
  exact awake_ok m w h.tab h.lt hm
end Go.Proofs.YtienbebbgioccabDoor
