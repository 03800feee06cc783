/- Package procset and its specification: Check, All, Members, Size, for whatever integers. -/
import Derived.Test.YtokjdlljhloflaaBsB
import Derived.WalkKit
import Derived.WalkSpells
import Derived.WalkLawsBesides
import Derived.Handy
import Derived.Deep.QuietTactic
import Derived.BigQuiet
import Derived.Outline
import Derived.Laws.BitsAllLaws
import Derived.IntWalk
import Derived.Lib.SmallJoins
import Derived.Lib.Hide
import Derived.Deep.DeepCutAuto
import Derived.LoopTactic
import Derived.Deep.RegionWith
namespace Go.Proofs.Ytokjdlljhloflaa.Ps
set_option linter.unusedVariables false
set_option linter.unusedSimpArgs false
open Go.RowKit

theorem undrew {B : Nat} {w w' : World} (h : Below B w.drew w') : Below B w w' := ⟨h.os, h.tape, h.output, h.size, h.block⟩
theorem fresh_below {w w1 : World} {o : Obj} (hb : Below (w.alloc o).heap.size (w.alloc o) w1) : Below w.heap.size w w1 :=
  ((Below.refl _ _).alloc (Nat.le_refl _) _).trans (Joins.below_le hb (by simp))
theorem below_dn {B : Nat} {w w' : World} (d : Nat) (h : Below B w w') : Below B w (w'.drewN d) := ⟨h.os, h.tape, h.output, h.size, h.block⟩

/-- A number of processes that is none. -/
def NOut (n : Int) : Prop := n < 1 ∨ 5 < n
/-- A set that is none. -/
def SOut (n s : Int) : Prop := (1 ≤ n ∧ n ≤ 5) ∧ (s < 0 ∨ ((2 ^ n.toNat : Nat) : Int) ≤ s)
def SOk (N S : Nat) : Prop := 1 ≤ N ∧ N ≤ 5 ∧ S < 2 ^ N
theorem SOk.lt {N S : Nat} (h : SOk N S) : S < 32 := by
  have : (2 : Nat) ^ N ≤ 2 ^ 5 := Nat.pow_le_pow_right (by omega) h.2.1
  have := h.2.2
  omega
theorem pcases (n s : Int) : NOut n ∨ SOut n s ∨ ∃ N S : Nat, n = (N : Int) ∧ s = (S : Int) ∧ SOk N S := by
  by_cases h : NOut n
  · exact .inl h
  · have h1 : 1 ≤ n ∧ n ≤ 5 := by unfold NOut at h; omega
    by_cases h2 : s < 0 ∨ ((2 ^ n.toNat : Nat) : Int) ≤ s
    · exact .inr (.inl ⟨h1, h2⟩)
    · obtain ⟨N, rfl⟩ := Int.eq_ofNat_of_zero_le (show 0 ≤ n by omega)
      obtain ⟨S, rfl⟩ := Int.eq_ofNat_of_zero_le (show 0 ≤ s by omega)
      refine .inr (.inr ⟨N, S, rfl, rfl, by omega, by omega, ?_⟩)
      simp only [Int.toNat_natCast] at h2
      omega

theorem pchk_n (n s : Int) (h : NOut n) (w : World) : Calls Try.prog 18 #[.int .i64 n, .int .i64 s] w fun e w' => e = .returned (.int .i64 1) ∧ w = w' := by
  rcases h with h | h
  all_goals
    go_enter Try.func18, Try.ntmps18
    go_wp2_with fail
    go_ret
    exact ⟨rfl, rfl⟩
set_option maxHeartbeats 1000000 in
theorem pchk_s (n s : Int) (h : SOut n s) (w : World) : Calls Try.prog 18 #[.int .i64 n, .int .i64 s] w fun e w' => e = .returned (.int .i64 2) ∧ w = w' := by
  obtain ⟨h1, h2⟩ := h
  obtain rfl | rfl | rfl | rfl | rfl : n = 1 ∨ n = 2 ∨ n = 3 ∨ n = 4 ∨ n = 5 := by omega
  all_goals
    rcases h2 with h2 | h2
    all_goals
      (try simp at h2)
      go_enter Try.func18, Try.ntmps18
      go_wp2_with fail
      go_ret
      exact ⟨rfl, rfl⟩
theorem pchk_ok (N S : Nat) (h : SOk N S) (w : World) : Calls Try.prog 18 #[.int .i64 (N : Int), .int .i64 (S : Int)] w fun e w' => e = .returned (.int .i64 0) ∧ w = w' :=
  pcheck_any N ⟨h.1, h.2.1⟩ S h.2.2 w

/-- A list of numbers lies there. -/
structure LiesI (w : World) (v : Value) (l : List Nat) : Prop where
  form : (v = .slice none 0 0 ∧ l.length = 0) ∨ ∃ g cap, v = .slice (some ⟨g, 0, none⟩) l.length cap ∧ g < w.heap.size ∧ l.length ≤ cap ∧ ∀ V i, Below w.heap.size w V → (h : i < l.length) → V.cell? ⟨g, i, none⟩ = some (.int .i64 (l[i] : Int))
def cellsI (l : List Nat) : List Value := l.map fun x : Nat => Value.int .i64 (x : Int)
theorem LiesI.of {w : World} {B : Nat} {v : Value} {l : List Nat} (h : w.ownsRow B 3 1 v l.length (cellsI l)) : LiesI w v l := by
  refine ⟨?_⟩
  rcases h.2 with ⟨h0, h1⟩ | ⟨g, cap, cur, h0, hHL, hLc, hcl, hcm, hcs, htk⟩
  · exact .inl ⟨h0, h1⟩
  · have hLl : g < w.heap.size := (Array.getElem?_eq_some_iff.1 hLc).1
    refine .inr ⟨g, cap, h0, hLl, hcl, fun V i hV h => ?_⟩
    have e : (cellsI l)[i]? = some (.int .i64 (l[i] : Int)) := by unfold cellsI; rw [List.getElem?_map, List.getElem?_eq_getElem h]; rfl
    rw [hV.cell (p := ⟨g, i, none⟩) hLl, Joins.cell_of_block hLc, ← e, ← htk, List.getElem?_take, if_pos (by omega), Array.getElem?_toList]
theorem LiesI.below {w W : World} {v : Value} {l : List Nat} (h : LiesI w v l) (hb : Below w.heap.size w W) : LiesI W v l := by
  refine ⟨?_⟩
  rcases h.form with h0 | ⟨g, cap, h0, h1, h2, h3⟩
  · exact .inl h0
  · exact .inr ⟨g, cap, h0, Nat.lt_of_lt_of_le h1 hb.size, h2, fun V i hV h => h3 V i (hb.trans (Joins.below_le hV hb.size)) h⟩
/-- A list and an error come back. -/
def LRes (l : List Nat) (c : Int) (B : Nat) (w : World) (e : Ending) (w' : World) : Prop := ∃ v, e = .returned (.tuple #[v, .int .i64 c]) ∧ Below B w w' ∧ LiesI w' v l
theorem LRes.nil (c : Int) (w : World) : LRes [] c w.heap.size w (.returned (.tuple #[.slice none 0 0, .int .i64 c])) w := ⟨_, rfl, Below.refl _ _, ⟨.inl ⟨rfl, rfl⟩⟩⟩

/-- All. -/
theorem all_n (n : Int) (h : NOut n) (w : World) : Calls Try.prog 7 #[.int .i64 n] w fun e w' => e = .returned (.tuple #[.int .i64 0, .int .i64 1]) ∧ w = w' := by
  have H := Lib.hid (fun w => pchk_n n 0 h w)
  clear h
  go_enter Try.func7, Try.ntmps7
  go_wp2_with fail
  refine (H.out _).mono ?_
  rintro e w' ⟨rfl, rfl⟩
  go_wp2_with fail
  go_ret2
  exact ⟨rfl, rfl⟩
theorem all_okn (N : Nat) (h1 : 1 ≤ N) (h5 : N ≤ 5) (w : World) : Calls Try.prog 7 #[.int .i64 (N : Int)] w fun e w' => e = .returned (.tuple #[.int .i64 ((2 ^ N : Nat) - 1 : Int), .int .i64 0]) ∧ w = w' := by
  have H := Lib.hid (fun w => pchk_ok N 0 ⟨h1, h5, Nat.pow_pos (by omega)⟩ w)
  obtain rfl | rfl | rfl | rfl | rfl : N = 1 ∨ N = 2 ∨ N = 3 ∨ N = 4 ∨ N = 5 := by omega
  all_goals
    go_enter Try.func7, Try.ntmps7
    go_wp2_with fail
    refine (H.out _).mono ?_
    rintro e w' ⟨rfl, rfl⟩
    go_wp2_with fail
    go_ret2
    exact ⟨rfl, rfl⟩
end Go.Proofs.Ytokjdlljhloflaa.Ps
