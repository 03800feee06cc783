/- Package procset and its specification: Choose, with its errors. -/
import Derived.Test.YtienbebbgioccabDoorPsE
import Derived.WalkKit
import Derived.WalkSpells
import Derived.WalkLawsBesides
import Derived.Handy
import Derived.Deep.QuietTactic
import Derived.BigQuiet
import Derived.Outline
import Derived.Laws.BitsAllLaws
import Derived.IntWalk
import Derived.Lib.SmallJoins
import Derived.Lib.Hide
import Derived.Deep.DeepCutAuto
import Derived.LoopTactic
import Derived.Deep.RegionWith
namespace Go.Proofs.YtienbebbgioccabDoor
set_option linter.unusedVariables false
set_option linter.unusedSimpArgs false
open Go.RowKit

theorem choose_bad (n s k c : Int) (h0 : c ≠ 0) (Hc : ∀ w, Calls Tryd.prog 4 #[.int .i64 n, .int .i64 s] w fun e w' => e = .returned (.tuple #[.int .i64 0, .int .i64 c]) ∧ w = w') (w : World) : Calls Tryd.prog 6 #[.int .i64 n, .int .i64 s, .int .i64 k] w fun e w' => e = .returned (.tuple #[.slice none 0 0, .int .i64 c]) ∧ Below w.heap.size w w' := by
  have H := Lib.hid Hc
  have hb : (c != 0) = true := by simpa using h0
  clear Hc h0
  go_enter Tryd.func6, Tryd.ntmps6
  go_wp2_with fail
  refine (H.out _).mono ?_
  rintro e w' ⟨rfl, rfl⟩
  go_wp2_with fail
  go_ret2
  exact ⟨rfl, (Below.refl _ _).alloc (Nat.le_refl _) _⟩
set_option maxHeartbeats 1000000 in
theorem choose_rng (N S : Nat) (h : SOk N S) (k : Int) (hk : k < 0 ∨ (num S : Int) < k) (w : World) : Calls Tryd.prog 6 #[.int .i64 (N : Int), .int .i64 (S : Int), .int .i64 k] w fun e w' => e = .returned (.tuple #[.slice none 0 0, .int .i64 2]) ∧ Below w.heap.size w w' := by
  have H := Lib.hid (fun w => size_okn N S h w)
  have hn5 : num S ≤ 5 := memb_le S 5
  obtain ⟨u, hu⟩ : ∃ u, num S = u := ⟨_, rfl⟩
  rw [hu] at H hk hn5
  clear h hu
  rcases hk with hk | hk
  all_goals
    go_enter Tryd.func6, Tryd.ntmps6
    go_wp2_with fail
    refine (H.out _).mono ?_
    rintro e w' ⟨rfl, rfl⟩
    go_wp2_with fail
    go_ret2
    exact ⟨rfl, (Below.refl _ _).alloc (Nat.le_refl _) _⟩
theorem choose_okn (N S : Nat) (h : SOk N S) (k : Int) (hk : 0 ≤ k ∧ k ≤ (num S : Int)) (w : World) :
    Calls Tryd.prog 6 #[.int .i64 (N : Int), .int .i64 (S : Int), .int .i64 k] w (LRes (cho S k) 0 w.heap.size w) := callsIn_wide.1 (choose_in N S h k hk w)

/-- What of the first p of a list has k elements. -/
def chp (k : Int) (l : List Nat) (p : Nat) : List Nat := (l.take p).filter fun x => ((num x : Nat) : Int) == k
theorem chp_yes {k : Int} {l : List Nat} {p : Nat} (h : p < l.length) (e : (((num l[p] : Nat) : Int) == k) = true) : chp k l (p + 1) = chp k l p ++ [l[p]] := by
  unfold chp; rw [List.take_succ_eq_append_getElem h, List.filter_append]; simp [List.filter_cons, e]
theorem chp_no {k : Int} {l : List Nat} {p : Nat} (h : p < l.length) (e : (((num l[p] : Nat) : Int) == k) = false) : chp k l (p + 1) = chp k l p := by
  unfold chp; rw [List.take_succ_eq_append_getElem h, List.filter_append]; simp [List.filter_cons, e]
theorem chp_le (k : Int) (l : List Nat) (p : Nat) : (chp k l p).length ≤ l.length := by
  unfold chp
  exact Nat.le_trans (List.length_filter_le _ _) (List.length_take_le' ..)

end Go.Proofs.YtienbebbgioccabDoor
