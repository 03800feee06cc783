/- All on numbers without graphs; lists of graphs compared. -/
import Derived.Test.YtacnhklhimogkaaDoorAlB
import Derived.Test.YtacnhklhimogkaaDoorGrE
import Derived.Deep.DeepCutAuto
import Derived.Test.YtacnhklhimogkaaDoorGcB
import Derived.Test.YtacnhklhimogkaaDoorGrN
import Derived.Test.YtacnhklhimogkaaDoorPmA
import Derived.Test.YtacnhklhimogkaaDoorPmM
import Derived.Test.YtacnhklhimogkaaDoorPmD
import Derived.Test.YtacnhklhimogkaaDoorGrR
import Derived.Test.YtacnhklhimogkaaDoorTb
import Derived.LoopTactic
import Derived.Deep.RegionWith
import Derived.WalkKit
import Derived.WalkSpells
import Derived.WalkLawsBesides
import Derived.Handy
import Derived.Deep.QuietTactic
import Derived.BigQuiet
import Derived.Outline
import Derived.Laws.BitsAllLaws
import Derived.IntWalk
import Derived.Lib.SmallJoins
import Derived.Lib.Hide
namespace Go.Proofs.YtacnhklhimogkaaDoor
set_option linter.unusedVariables false
set_option linter.unusedSimpArgs false
open Go.RowKit

theorem all_out (n : Int) (h : n < 1 ∨ 5 < n) (w : World) :
    Calls Tryd.prog 31 #[.int .i64 n] w fun e w' => e = .returned (.tuple #[.slice none 0 0, .int .i64 2]) ∧ w = w' := by
  rcases h with h | h
  all_goals
    go_enter Tryd.func31, Tryd.ntmps31
    go_wp2_with fail
    go_ret2
    exact ⟨rfl, rfl⟩
theorem all_lim (w : World) :
    Calls Tryd.prog 31 #[.int .i64 5] w fun e w' => e = .returned (.tuple #[.slice none 0 0, .int .i64 17]) ∧ w = w' := by
  go_enter Tryd.func31, Tryd.ntmps31
  go_wp2_with fail
  go_ret2
  exact ⟨rfl, rfl⟩
theorem rall_out (n : Int) (h : n < 1 ∨ 5 < n) (w : World) :
    Calls Tryd.prog 32 #[.int .i64 n] w fun e w' => e = .returned (.tuple #[.slice none 0 0, .int .i64 2]) ∧ w = w' := by
  rcases h with h | h
  all_goals
    go_enter Tryd.func32, Tryd.ntmps32
    go_wp2_with fail
    go_ret2
    exact ⟨rfl, rfl⟩

/-- A row of graphs lies there. -/
structure Lies (w : World) (n : Nat) (v : Value) (l : List (Nat → Nat)) : Prop where
  form : (v = .slice none 0 0 ∧ l.length = 0) ∨ ∃ g cap, v = .slice (some ⟨g, 0, none⟩) l.length cap ∧ g < w.heap.size ∧ l.length ≤ cap ∧ ∀ V i k, Below w.heap.size w V → (h : i < l.length) → k < 6 → V.cell? ⟨g, i * 6 + k, none⟩ = (gcl n l[i])[k]?
theorem Lies.of {w : World} {n B : Nat} {v : Value} {l : List (Nat → Nat)} (h : w.ownsRow B 24 6 v l.length (flat n l)) : Lies w n v l := by
  refine ⟨?_⟩
  rcases h.2 with ⟨h0, h1⟩ | ⟨g, cap, cur, h0, hHL, hLc, hcl, hcm, hcs, htk⟩
  · exact .inl ⟨h0, h1⟩
  · have hLl : g < w.heap.size := (Array.getElem?_eq_some_iff.1 hLc).1
    refine .inr ⟨g, cap, h0, hLl, hcl, fun V i k hV h hk => ?_⟩
    rw [hV.cell (p := ⟨g, i * 6 + k, none⟩) hLl, Joins.cell_of_block hLc, ← flat_get n l i k h hk, ← htk, List.getElem?_take, if_pos (by omega), Array.getElem?_toList]
theorem Lies.below {w W : World} {n : Nat} {v : Value} {l : List (Nat → Nat)} (h : Lies w n v l) (hb : Below w.heap.size w W) : Lies W n v l := by
  refine ⟨?_⟩
  rcases h.form with h0 | ⟨g, cap, h0, h1, h2, h3⟩
  · exact .inl h0
  · exact .inr ⟨g, cap, h0, Nat.lt_of_lt_of_le h1 hb.size, h2, fun V i k hV h hk => h3 V i k (hb.trans (Joins.below_le hV hb.size)) h hk⟩

theorem geq_refl (n a0 a1 a2 a3 a4 : Nat) : geq n n a0 a1 a2 a3 a4 a0 a1 a2 a3 a4 = true := by
  unfold geq; simp

set_option maxHeartbeats 1000000 in
theorem same_nil (w : World) : Calls Tryd.prog 33 #[.slice none 0 0, .slice none 0 0] w fun e w' => e = .returned (.bool true) ∧ Below w.heap.size w w' := by
  go_enter Tryd.func33, Tryd.ntmps33
  go_wp2_with fail
  go_rounds 1
  go_ret
  exact ⟨rfl, Below.refl _ _⟩

set_option maxHeartbeats 1000000 in
theorem same_ok (n : Nat) (l : List (Nat → Nat)) (hl : l.length ≤ 1000000) (u v : Value) (w : World) (hu : Lies w n u l) (hv : Lies w n v l) :
    Calls Tryd.prog 33 #[u, v] w fun e w' => e = .returned (.bool true) ∧ Below w.heap.size w w' := by
  rcases hu.form with ⟨rfl, h0⟩ | ⟨g, cg, rfl, hg, hcg, HG⟩
  · rcases hv.form with ⟨rfl, _⟩ | ⟨k, ck, rfl, hk, hck, HK⟩
    · exact same_nil w
    · rw [h0]
      go_enter Tryd.func33, Tryd.ntmps33
      go_wp2_with fail
      go_rounds 1
      go_ret
      exact ⟨rfl, Below.refl _ _⟩
  rcases hv.form with ⟨rfl, h0⟩ | ⟨k, ck, rfl, hk, hck, HK⟩
  · rw [h0]
    go_enter Tryd.func33, Tryd.ntmps33
    go_wp2_with fail
    go_rounds 1
    go_ret
    exact ⟨rfl, Below.refl _ _⟩
  have HG' := Lib.hid HG
  have HK' := Lib.hid HK
  clear HG HK hu hv
  go_enter Tryd.func33, Tryd.ntmps33
  go_wp2_with fail
  go_loopw [5] (fun j wr => ∃ i : Nat, i ≤ l.length ∧ j = .int .i64 i ∧ ∃ d, wr = w.drewN d) (fun j _ => l.length - (intOf j).toNat)
  case atStart => exact ⟨0, by omega, rfl, 0, rfl⟩
  case round =>
    obtain ⟨i, hi, rfl, d, rfl⟩ := hrel
    by_cases hlt : i < l.length
    · have hb : Below w.heap.size w (w.drewN d) := below_dn d (Below.refl _ _)
      have c0 := HG'.out _ i 0 hb hlt (by omega)
      have c1 := HG'.out _ i 1 hb hlt (by omega)
      have c2 := HG'.out _ i 2 hb hlt (by omega)
      have c3 := HG'.out _ i 3 hb hlt (by omega)
      have c4 := HG'.out _ i 4 hb hlt (by omega)
      have c5 := HG'.out _ i 5 hb hlt (by omega)
      have d0 := HK'.out _ i 0 hb hlt (by omega)
      have d1 := HK'.out _ i 1 hb hlt (by omega)
      have d2 := HK'.out _ i 2 hb hlt (by omega)
      have d3 := HK'.out _ i 3 hb hlt (by omega)
      have d4 := HK'.out _ i 4 hb hlt (by omega)
      have d5 := HK'.out _ i 5 hb hlt (by omega)
      obtain ⟨y, hy⟩ : ∃ y, l[i] = y := ⟨_, rfl⟩
      rw [hy] at c0 c1 c2 c3 c4 c5 d0 d1 d2 d3 d4 d5
      simp [gcl] at c0 c1 c2 c3 c4 c5 d0 d1 d2 d3 d4 d5
      have hne := fun w => run_neq_g n n (y 0) (y 1) (y 2) (y 3) (y 4) (y 0) (y 1) (y 2) (y 3) (y 4) w
      simp only [geq_refl, Bool.not_true] at hne
      clear hy hb
      go_wp2_with fail
      go_quiet (fail)
      go_wp2_with fail
      go_roundw
      case rel => exact ⟨i + 1, by omega, by go_num, _, by first | rfl | (simp only [World.drewN_drewN]; rfl)⟩
      case measure => simp [intOf]; omega
    · have hil : i = l.length := by omega
      subst hil
      go_wp2_with fail
      go_ret
      exact ⟨rfl, below_dn _ (Below.refl _ _)⟩
end Go.Proofs.YtacnhklhimogkaaDoor
