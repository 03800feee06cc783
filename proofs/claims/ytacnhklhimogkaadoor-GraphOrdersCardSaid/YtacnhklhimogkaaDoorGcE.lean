/- The walk of roundtablelaw03.GraphComposes for whatever graphs: the package and the specification answer alike. -/
import Derived.Test.YtacnhklhimogkaaDoorGcD
import Derived.Test.YtacnhklhimogkaaDoorGcB
import Derived.Test.YtacnhklhimogkaaDoorGrN
import Derived.Test.YtacnhklhimogkaaDoorPmA
import Derived.Test.YtacnhklhimogkaaDoorPmM
import Derived.Test.YtacnhklhimogkaaDoorPmD
import Derived.Test.YtacnhklhimogkaaDoorGrR
import Derived.Test.YtacnhklhimogkaaDoorTb
import Derived.LoopTactic
import Derived.Deep.RegionWith
import Derived.WalkKit
import Derived.WalkSpells
import Derived.WalkLawsBesides
import Derived.Handy
import Derived.Deep.QuietTactic
import Derived.BigQuiet
import Derived.Outline
import Derived.Laws.BitsAllLaws
import Derived.IntWalk
import Derived.Lib.SmallJoins
import Derived.Lib.Hide
namespace Go.Proofs.YtacnhklhimogkaaDoor
set_option linter.unusedVariables false
set_option linter.unusedSimpArgs false
open Go.RowKit

theorem rng_of'' {n : Nat} {k : Nat → Nat} (h : WF n k) : Rng (fun p => (k p : Int)) := by
  intro p hp
  obtain ⟨⟨h1, h2⟩, h3, h4⟩ := h
  by_cases hn : p < n
  · have := pow_small h2 (h3 p hn).1
    show _ ≤ ((k p : Nat) : Int) ∧ ((k p : Nat) : Int) ≤ _
    omega
  · have := h4 p (by omega) hp
    show _ ≤ ((k p : Nat) : Int) ∧ ((k p : Nat) : Int) ≤ _
    omega

theorem wf_of' {N : Nat} {x : Nat → Int} (h : WFI (N : Int) x) : WF N (fun p => (x p).toNat) ∧ ∀ p, p < 5 → x p = (((x p).toNat : Nat) : Int) := by
  have hr : ∀ p, p < 5 → okRow N p (x p) := fun p hp => h.2 p hp
  have hn := h.1
  refine ⟨⟨by omega, fun p hp => ?_, fun p hp h5 => ?_⟩, fun p hp => ?_⟩
  · have := hr p (by omega)
    unfold okRow at this
    rw [if_pos hp] at this
    exact ⟨by show (x p).toNat < 2 ^ N; omega, this.2.2⟩
  · have := hr p h5
    unfold okRow at this
    rw [if_neg (by omega)] at this
    show (x p).toNat = 0
    rw [this]; rfl
  · have := hr p hp
    unfold okRow at this
    by_cases hpn : p < N
    · rw [if_pos hpn] at this; omega
    · rw [if_neg hpn] at this; omega

theorem iv_of {N : Nat} {x : Nat → Int} (h : WFI (N : Int) x) : iv (N : Int) x = gv N (fun p => (x p).toNat) := by
  obtain ⟨_, e⟩ := wf_of' h
  unfold iv gv
  rw [e 0 (by omega), e 1 (by omega), e 2 (by omega), e 3 (by omega), e 4 (by omega)]

/-- Two functions answer alike: some graph, and some number. -/
def Alike (f g : FuncId) (args : Array Value) : Prop := ∃ (n : Nat) (k : Nat → Nat) (c : Int),
  (∀ w, Calls Tryd.prog f args w fun e w' => e = .returned (.tuple #[gv n k, .int .i64 c]) ∧ Below w.heap.size w w') ∧ ∀ w, Calls Tryd.prog g args w fun e w' => e = .returned (.tuple #[gv n k, .int .i64 c]) ∧ Below w.heap.size w w'

end Go.Proofs.YtacnhklhimogkaaDoor
