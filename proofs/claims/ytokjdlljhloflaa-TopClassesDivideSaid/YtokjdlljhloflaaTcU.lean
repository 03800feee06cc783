/- TopClassesDivide's walk. -/
import Derived.Test.YtokjdlljhloflaaTcT
import Derived.Test.YtokjdlljhloflaaHrJ
import Derived.WalkKit
import Derived.WalkSpells
import Derived.WalkLawsBesides
import Derived.Handy
import Derived.Deep.QuietTactic
import Derived.BigQuiet
import Derived.Outline
import Derived.Laws.BitsAllLaws
import Derived.IntWalk
import Derived.Lib.SmallJoins
import Derived.Lib.Hide
import Derived.Deep.DeepCutAuto
import Derived.LoopTactic
import Derived.Deep.RegionWith
namespace Go.Proofs.Ytokjdlljhloflaa
set_option linter.unusedVariables false
set_option linter.unusedSimpArgs false
open Go.RowKit Part Go.Sort

set_option maxRecDepth 100000 in
set_option maxHeartbeats 16000000 in
theorem dv_lt (n m : Nat) (h : n < 1) (o p : Option Addr) (cap cap' : Nat) (w : World) : Calls Try.prog 3 #[.slice o n cap, .slice p m cap'] w fun e w' => e = .returned (.bool true) ∧ Below w.heap.size w w' := by
  have h1 : (n : Int) < 1 := by omega
  clear h
  go_enter Try.func3, Try.ntmps3
  go_wp2_with fail
  refine (Gra.awake_c _).mono ?_
  rintro e W0 ⟨rfl, hb⟩
  have B := Lib.hid hb
  clear hb
  go_wp2_with fail
  go_ret
  exact ⟨rfl, B.out⟩

set_option maxRecDepth 100000 in
set_option maxHeartbeats 16000000 in
theorem dv_gt (n m : Nat) (h : 5 < n) (o p : Option Addr) (cap cap' : Nat) (w : World) : Calls Try.prog 3 #[.slice o n cap, .slice p m cap'] w fun e w' => e = .returned (.bool true) ∧ Below w.heap.size w w' := by
  have h1 : ¬ (n : Int) < 1 := by omega
  have h2 : (5 : Int) < (n : Int) := by omega
  clear h
  go_enter Try.func3, Try.ntmps3
  go_wp2_with fail
  refine (Gra.awake_c _).mono ?_
  rintro e W0 ⟨rfl, hb⟩
  have B := Lib.hid hb
  clear hb
  go_wp2_with fail
  go_ret
  exact ⟨rfl, B.out⟩

set_option maxRecDepth 100000 in
set_option maxHeartbeats 16000000 in
theorem dv_ne (n m : Nat) (h1 : 1 ≤ n) (h5 : n ≤ 5) (h : m ≠ n) (o p : Option Addr) (cap cap' : Nat) (w : World) : Calls Try.prog 3 #[.slice o n cap, .slice p m cap'] w fun e w' => e = .returned (.bool true) ∧ Below w.heap.size w w' := by
  have h1 : ¬ (n : Int) < 1 := by omega
  have h2 : ¬ (5 : Int) < (n : Int) := by omega
  have h3 : (m == n) = false := by simpa using h
  have h4 : ¬ (m : Int) = (n : Int) := by omega
  clear h h5
  go_enter Try.func3, Try.ntmps3
  go_wp2_with fail
  refine (Gra.awake_c _).mono ?_
  rintro e W0 ⟨rfl, hb⟩
  have B := Lib.hid hb
  clear hb
  go_wp2_with fail
  go_ret
  exact ⟨rfl, B.out⟩

set_option maxRecDepth 100000 in
set_option maxHeartbeats 16000000 in
theorem dv_bad1 (n : Nat) (h1 : 1 ≤ n) (h5 : n ≤ 5) (f g : Nat → Int) (c : Int) (hc : pcd n f = c) (h0 : c ≠ 0) (o p : Option Addr) (cap cap' : Nat) (w : World) (hL : Lz w o n f) (hL' : Lz w p n g) : Calls Try.prog 3 #[.slice o n cap, .slice p n cap'] w fun e w' => e = .returned (.bool true) ∧ Below w.heap.size w w' := by
  have H1 := Lib.hid (fun W h => rcheck_any n f o cap W h)
  rw [hc] at H1
  have h3 : (c != 0) = true := by simpa using h0
  have h1' : ¬ (n : Int) < 1 := by omega
  have h2' : ¬ (5 : Int) < (n : Int) := by omega
  have La := Lib.hid hL
  have Lb_ := Lib.hid hL'
  clear hL hL'
  clear hc h0 h1 h5
  go_enter Try.func3, Try.ntmps3
  go_wp2_with fail
  refine (Gra.awake_c _).mono ?_
  rintro e W0 ⟨rfl, hb⟩
  have B := Lib.hid hb
  replace La := Lib.hid (La.out.below hb)
  replace Lb_ := Lib.hid (Lb_.out.below hb)
  clear hb
  go_wp2_with fail
  refine (H1.out _ La.out).mono ?_
  rintro e w' ⟨rfl, rfl⟩
  go_wp2_with fail
  go_ret
  exact ⟨rfl, B.out⟩

set_option maxRecDepth 100000 in
set_option maxHeartbeats 16000000 in
theorem dv_bad2 (n : Nat) (h1 : 1 ≤ n) (h5 : n ≤ 5) (f g : Nat → Int) (h00 : pcd n f = 0) (c : Int) (hc : pcd n g = c) (h0 : c ≠ 0) (o p : Option Addr) (cap cap' : Nat) (w : World) (hL : Lz w o n f) (hL' : Lz w p n g) : Calls Try.prog 3 #[.slice o n cap, .slice p n cap'] w fun e w' => e = .returned (.bool true) ∧ Below w.heap.size w w' := by
  have H1 := Lib.hid (fun W h => rcheck_any n f o cap W h)
  rw [h00] at H1
  have H2 := Lib.hid (fun W h => rcheck_any n g p cap' W h)
  rw [hc] at H2
  have h3 : (c != 0) = true := by simpa using h0
  have h1' : ¬ (n : Int) < 1 := by omega
  have h2' : ¬ (5 : Int) < (n : Int) := by omega
  have La := Lib.hid hL
  have Lb_ := Lib.hid hL'
  clear hL hL'
  clear hc h0 h00 h1 h5
  go_enter Try.func3, Try.ntmps3
  go_wp2_with fail
  refine (Gra.awake_c _).mono ?_
  rintro e W0 ⟨rfl, hb⟩
  have B := Lib.hid hb
  replace La := Lib.hid (La.out.below hb)
  replace Lb_ := Lib.hid (Lb_.out.below hb)
  clear hb
  go_wp2_with fail
  refine (H1.out _ La.out).mono ?_
  rintro e w' ⟨rfl, rfl⟩
  go_wp2_with fail
  refine (H2.out _ Lb_.out).mono ?_
  rintro e w' ⟨rfl, rfl⟩
  go_wp2_with fail
  go_ret
  exact ⟨rfl, B.out⟩

end Go.Proofs.Ytokjdlljhloflaa
