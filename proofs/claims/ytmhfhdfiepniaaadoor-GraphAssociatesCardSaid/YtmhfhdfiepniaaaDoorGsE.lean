/- GraphAssociates holds: for every array of three graphs it returns true, and changes nothing that was there. Conditions: the two listed tables of unicode/utf8 read as listed when the call begins; the card ties them to the program's text. -/
import Derived.Test.YtmhfhdfiepniaaaDoorRows
import Derived.Test.YtmhfhdfiepniaaaDoorTie
import Derived.Test.YtmhfhdfiepniaaaDoorCards
import Derived.Test.YtmhfhdfiepniaaaDoorGsD
import Derived.Test.YtmhfhdfiepniaaaDoorAs
import Derived.Test.YtmhfhdfiepniaaaDoorAwE
import Derived.WalkKit
import Derived.ProofKit
import Derived.OpenShut
import Derived.ShutString
import Derived.LaidMore
import Derived.Lay
import Derived.SevenTiedAt
import Derived.Stop.Joined
import Derived.ChangeOld
import Derived.Below
namespace Go.Proofs.YtmhfhdfiepniaaaDoor
set_option linter.unusedVariables false
set_option linter.unusedSimpArgs false
open Go.ChangeShapes Go.WideShapes Go.ChangeAt Go.RowKit
set_option linter.unusedVariables false

theorem wf_of {N : Nat} {x : Nat → Int} (h : WFI (N : Int) x) : WF N (fun p => (x p).toNat) ∧ ∀ p, p < 5 → x p = (((x p).toNat : Nat) : Int) := by
  have hr : ∀ p, p < 5 → okRow N p (x p) := fun p hp => h.2 p hp
  have hn := h.1
  refine ⟨⟨by omega, fun p hp => ?_, fun p hp h5 => ?_⟩, fun p hp => ?_⟩
  · have := hr p (by omega)
    unfold okRow at this
    rw [if_pos hp] at this
    exact ⟨by show (x p).toNat < 2 ^ N; omega, this.2.2⟩
  · have := hr p h5
    unfold okRow at this
    rw [if_neg (by omega)] at this
    show (x p).toNat = 0
    rw [this]; rfl
  · have := hr p hp
    unfold okRow at this
    by_cases hpn : p < N
    · rw [if_pos hpn] at this; omega
    · rw [if_neg hpn] at this; omega

theorem assoc_any (na nb nc : Int) (a b c : Nat → Int) (ra : Rng a) (rb : Rng b) (rc : Rng c) (w : World) :
    Calls Tryd.prog 5 #[iv3 na nb nc a b c] w fun e w' => e = .returned (.bool true) ∧ Below w.heap.size w w' := by
  by_cases h : ThreeOk na nb nc a b c
  · obtain ⟨⟨⟨ka, kb⟩, rfl⟩, ⟨_, kc⟩, rfl⟩ := h
    obtain ⟨N, rfl⟩ := Int.eq_ofNat_of_zero_le (show 0 ≤ na by have := ka.1; omega)
    obtain ⟨wa, ea⟩ := wf_of ka
    obtain ⟨wb, eb⟩ := wf_of kb
    obtain ⟨wc, ec⟩ := wf_of kc
    have := assoc_yes N _ _ _ wa wb wc w awake_ok
    dsimp only [iv3, icells3] at this
    rw [← ea 0 (by omega), ← ea 1 (by omega), ← ea 2 (by omega), ← ea 3 (by omega), ← ea 4 (by omega), ← eb 0 (by omega), ← eb 1 (by omega), ← eb 2 (by omega), ← eb 3 (by omega), ← eb 4 (by omega),
      ← ec 0 (by omega), ← ec 1 (by omega), ← ec 2 (by omega), ← ec 3 (by omega), ← ec 4 (by omega)] at this
    exact this
  · exact assoc_no na nb nc a b c ra rb rc h w awake_ok

abbrev tabs : List (String × DataW Unit) := Rows.graphAssociatesRow.laid

set_option maxRecDepth 100000 in
theorem lifted (os : Os) (started : os.Started) (H : Type) (enc : TypeId × Value → H) :
    ReturnsInHanded {} Tryd.checked os 5 .any (fun w args => (Rows.graphAssociatesSpec.pre enc Tryd.prog Tryd.f5 Rows.graphAssociatesRow.domain false w args ∧ laidMetH Tryd.prog tabs w) ∧ sizedMet enc Tryd.prog Tryd.f5 (OpenSpec.ofChange Rows.graphAssociatesSpec) false w args)
      (Rows.graphAssociatesSpec.post enc Tryd.prog Tryd.f5 false true false false) := by
  refine returnsInHanded_of_change_and (C := Tryd.checked) (X := fun w _ => laidMetH Tryd.prog tabs w) (fun _ _ _ hh h => h.of_heap hh) own started (by kernel_rfl) Tryd.func5
    (ChangeSpec.witness_shaped (enc := enc) (C := Tryd.checked) (os := os) (X := fun w _ => laidMetH Tryd.prog tabs w) false (World.laidAll Tryd.prog os tabs) #[iv3 0 0 0 (fun _ => 0) (fun _ => 0) (fun _ => 0)] 8 (World.laidAll_os _ _ _)
      (World.shaped_of_ZipB (by kernel_rfl) (by kernel_rfl)) (by kernel_rfl) (by kernel_rfl) (by kernel_rfl)
      (by rw [MakeChecks.laidMetH_plain _ _ _ (by kernel_rfl)]; exact laidMet_laidAll _ (by kernel_rfl) (by kernel_rfl))) ?_
  intro W base args ds gs before hval0 hW hcnd _ hL _
  have hval : ∀ (j : Nat) t v, Tryd.f5.params[j]? = some t → args[j]? = some v → Value.okWide Tryd.prog W .any base t v := hval0
  have hW' := hW
  obtain ⟨p, q, hA0, hV, rfl, hfz, hnd⟩ := hW
  have hA : DataW.TrodAll enc Tryd.prog W 0 (fun _ => true) true Tryd.f5.params.toList args.toList ds p := hA0
  rw [Tryd.params5] at hA hval
  obtain ⟨v0, d0, rfl, rfl, h0⟩ := trodAll_one hA
  obtain ⟨rfl, rfl⟩ := trodVars_none hV
  have k0 := h0
  have lt0 : ∀ x ∈ p, x.block < W.heap.size := by obtain ⟨m, hm⟩ := k0; exact DataW.trod_lt m _ _ _ hm
  obtain ⟨na, nb, nc, a, b, c, rfl, ra, rb, rc⟩ := open_graphs3 (hval 0 _ v0 rfl rfl) h0
  clear hA0 hval0
  refine (assoc_any na nb nc a b c ra rb rc W).mono fun e W' ⟨he, bel⟩ => ?_
  subst he
  exact ⟨_, rfl, _, _, _, [], _, [], hW', trodAll_mk1 (shut_bool Tryd.underlying4 _), (trodAll_cons_mk (Below.trod laidOut (by kernel_rfl) (of_decide_eq_true (by kernel_rfl)) k0 bel lt0) trodAll_mk0), rfl, bel.frame _, fun h => by cases h⟩

theorem over : Rows.GraphAssociatesSaid :=
  OpenClaim.holds_of_wide 5 Tryd.f5 rfl rfl rfl rfl rfl rfl rfl ⟨rfl, rfl, rfl, rfl, rfl⟩ rfl rfl rfl rfl rfl (by kernel_rfl) Tryd.func5 (by kernel_rfl)
    (of_decide_eq_true (by kernel_rfl)) (by unfold Func.isWrapper; first | (rw [if_pos (by decide +kernel)]; kernel_rfl) | (rw [if_neg (by decide +kernel)]; exact ⟨rfl, rfl⟩))
    (fun os started H enc _ => lifted os started H enc)

/-- The given statement: the row with its tables tied to the program's text. -/
theorem graphAssociates_card : Rows.GraphAssociatesCardSaid :=
  Claim7.holds_tied_plain_at .later [] [.data, .pinned] true Rows.graphAssociatesCard.stood.harness false over (fun _ h => by cases h) (by kernel_rfl) (fun _ h => by cases h) graphAssociates_row_tie rfl ⟨rfl, rfl⟩ (by kernel_rfl) rfl
    (fun f fn hf hfn => by
      obtain rfl : f = 5 := Option.some.inj ((show Tryd.prog.funcNamed "roundtable/roundtablelaw03.GraphAssociates" = some 5 by kernel_rfl).symm.trans hf) |>.symm
      obtain rfl : fn = Tryd.f5 := (Option.some.inj (Tryd.func5.symm.trans hfn)).symm
      exact ⟨by kernel_rfl, fun j t ht => by
        rw [Tryd.params5] at ht
        have hm : t ∈ [38] := by simpa using Array.mem_of_getElem? ht
        have hall : ([38].all fun u => !Tryd.prog.wantsStandIn u) = true := by kernel_rfl
        exact (show Tryd.prog.wantsStandIn t = false by simpa using List.all_eq_true.1 hall t hm)⟩)
    (by kernel_rfl)
#print axioms graphAssociates_card
end Go.Proofs.YtmhfhdfiepniaaaDoor
