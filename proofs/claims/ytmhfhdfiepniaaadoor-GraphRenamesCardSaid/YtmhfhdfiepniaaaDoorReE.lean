/- GraphRenames holds: for every two graphs and every list it returns true, and changes nothing that was there. Conditions: the two listed tables of unicode/utf8 read as listed when the call begins; the card ties them to the program's text. -/
import Derived.Test.YtmhfhdfiepniaaaDoorRows
import Derived.Test.YtmhfhdfiepniaaaDoorTie
import Derived.Test.YtmhfhdfiepniaaaDoorCards
import Derived.Test.YtmhfhdfiepniaaaDoorGsD
import Derived.Test.YtmhfhdfiepniaaaDoorRe
import Derived.Test.YtmhfhdfiepniaaaDoorAwE
import Derived.WalkKit
import Derived.ProofKit
import Derived.OpenShut
import Derived.ShutString
import Derived.LaidMore
import Derived.Lay
import Derived.SevenTiedAt
import Derived.Stop.Joined
import Derived.ChangeOld
import Derived.Below
namespace Go.Proofs.YtmhfhdfiepniaaaDoor
set_option linter.unusedVariables false
set_option linter.unusedSimpArgs false
open Go.ChangeShapes Go.WideShapes Go.ChangeAt Go.RowKit
set_option linter.unusedVariables false

theorem wf_of {N : Nat} {x : Nat → Int} (h : WFI (N : Int) x) : WF N (fun p => (x p).toNat) ∧ ∀ p, p < 5 → x p = (((x p).toNat : Nat) : Int) := by
  have hr : ∀ p, p < 5 → okRow N p (x p) := fun p hp => h.2 p hp
  have hn := h.1
  refine ⟨⟨by omega, fun p hp => ?_, fun p hp h5 => ?_⟩, fun p hp => ?_⟩
  · have := hr p (by omega)
    unfold okRow at this
    rw [if_pos hp] at this
    exact ⟨by show (x p).toNat < 2 ^ N; omega, this.2.2⟩
  · have := hr p h5
    unfold okRow at this
    rw [if_neg (by omega)] at this
    show (x p).toNat = 0
    rw [this]; rfl
  · have := hr p hp
    unfold okRow at this
    by_cases hpn : p < N
    · rw [if_pos hpn] at this; omega
    · rw [if_neg hpn] at this; omega

/-- What is told of the list: it is nil, or it lies there. -/
def IsInts (w : World) (A : Option Addr) (len cap : Nat) (x : Nat → Int) : Prop :=
  (A = none ∧ len = 0) ∨ ∃ b off, ∃ spot, A = some ⟨b, off, spot⟩ ∧ len ≤ cap ∧ (0 < len → spot = none) ∧ (0 < len → b < w.heap.size) ∧ ∀ i, i < len → w.cell? ⟨b, off + i, none⟩ = some (.int .i64 (x i))

theorem renames_any (na nb : Int) (a b : Nat → Int) (ra : Rng a) (rb : Rng b) (A : Option Addr) (len cap : Nat) (x : Nat → Int) (w : World) (hx : IsInts w A len cap x) :
    Calls Tryd.prog 6 #[iv na a, iv nb b, .slice A len cap] w fun e w' => e = .returned (.bool true) ∧ Below w.heap.size w w' := by
  by_cases h : BothOk na nb a b
  · obtain ⟨⟨ka, kb⟩, rfl⟩ := h
    obtain ⟨N, rfl⟩ := Int.eq_ofNat_of_zero_le (show 0 ≤ na by have := ka.1; omega)
    obtain ⟨wa, ea⟩ := wf_of ka
    obtain ⟨wb, eb⟩ := wf_of kb
    have key : Calls Tryd.prog 6 #[iv N (fun p => ((a p).toNat : Int)), iv N (fun p => ((b p).toNat : Int)), .slice A len cap] w fun e w' => e = .returned (.bool true) ∧ Below w.heap.size w w' := by
      by_cases hl : len = N
      · subst hl
        have h1 : 1 ≤ len := wa.1.1
        rcases hx with ⟨_, h0⟩ | ⟨b0, off, spot, rfl, hc, hs, hlt, hcell⟩
        · omega
        · rw [hs (by omega)]
          by_cases hp : pcode len x = 0
          · obtain ⟨hperm, hval⟩ := pcode_perm hp
            exact renames_yes len cap b0 off _ _ (fun i => (x i).toNat) wa wb hperm hc w ⟨hlt (by omega), fun i hi => by rw [hcell i hi]; exact congrArg (fun z => some (Value.int .i64 z)) (hval i hi)⟩ awake_ok
          · exact renames_no3 w len cap b0 off _ _ x wa wb hc (hlt (by omega)) hcell hp awake_ok
      · exact renames_no2 N _ _ wa wb A len cap hl w awake_ok
    dsimp only [iv] at key
    rw [← ea 0 (by omega), ← ea 1 (by omega), ← ea 2 (by omega), ← ea 3 (by omega), ← ea 4 (by omega), ← eb 0 (by omega), ← eb 1 (by omega), ← eb 2 (by omega), ← eb 3 (by omega), ← eb 4 (by omega)] at key
    exact key
  · exact renames_no1 na nb a b ra rb h A len cap w awake_ok

abbrev tabs : List (String × DataW Unit) := Rows.graphRenamesRow.laid

set_option maxRecDepth 100000 in
theorem lifted (os : Os) (started : os.Started) (H : Type) (enc : TypeId × Value → H) :
    ReturnsInHanded {} Tryd.checked os 6 .any (fun w args => (Rows.graphRenamesSpec.pre enc Tryd.prog Tryd.f6 Rows.graphRenamesRow.domain false w args ∧ laidMetH Tryd.prog tabs w) ∧ sizedMet enc Tryd.prog Tryd.f6 (OpenSpec.ofChange Rows.graphRenamesSpec) false w args)
      (Rows.graphRenamesSpec.post enc Tryd.prog Tryd.f6 false true false false) := by
  refine returnsInHanded_of_change_and (C := Tryd.checked) (X := fun w _ => laidMetH Tryd.prog tabs w) (fun _ _ _ hh h => h.of_heap hh) own started (by kernel_rfl) Tryd.func6
    (ChangeSpec.witness_shaped (enc := enc) (C := Tryd.checked) (os := os) (X := fun w _ => laidMetH Tryd.prog tabs w) false (World.laidAll Tryd.prog os tabs) #[iv 0 (fun _ => 0), iv 0 (fun _ => 0), .slice none 0 0] 8 (World.laidAll_os _ _ _)
      (World.shaped_of_ZipB (by kernel_rfl) (by kernel_rfl)) (by kernel_rfl) (by kernel_rfl) (by kernel_rfl)
      (by rw [MakeChecks.laidMetH_plain _ _ _ (by kernel_rfl)]; exact laidMet_laidAll _ (by kernel_rfl) (by kernel_rfl))) ?_
  intro W base args ds gs before hval0 hW hcnd _ hL _
  have hval : ∀ (j : Nat) t v, Tryd.f6.params[j]? = some t → args[j]? = some v → Value.okWide Tryd.prog W .any base t v := hval0
  have hW' := hW
  obtain ⟨p, q, hA0, hV, rfl, hfz, hnd⟩ := hW
  have hA : DataW.TrodAll enc Tryd.prog W 0 (fun _ => true) true Tryd.f6.params.toList args.toList ds p := hA0
  rw [Tryd.params6] at hA hval
  obtain ⟨v0, vs0, d0, ds0, p0, q0, hargs, rfl, rfl, h0, r0⟩ := trodAll_cons hA
  obtain ⟨v1, vs1, d1, ds1, p1, q1, rfl, rfl, rfl, h1, r1⟩ := trodAll_cons r0
  obtain ⟨v2, vs2, d2, ds2, p2, q2, rfl, rfl, rfl, h2, r2⟩ := trodAll_cons r1
  obtain ⟨rfl, rfl, rfl⟩ := trodAll_nil r2
  obtain rfl : args = #[v0, v1, v2] := by cases args; simp_all
  obtain ⟨rfl, rfl⟩ := trodVars_none hV
  have k0 := h0
  have k1 := h1
  have k2 := h2
  have lt0 : ∀ x ∈ p0, x.block < W.heap.size := by obtain ⟨m, hm⟩ := k0; exact DataW.trod_lt m _ _ _ hm
  have lt1 : ∀ x ∈ p1, x.block < W.heap.size := by obtain ⟨m, hm⟩ := k1; exact DataW.trod_lt m _ _ _ hm
  have lt2 : ∀ x ∈ p2, x.block < W.heap.size := by obtain ⟨m, hm⟩ := k2; exact DataW.trod_lt m _ _ _ hm
  obtain ⟨na, a, rfl, ra⟩ := open_graph' (hval 0 _ v0 rfl rfl) h0
  obtain ⟨nb, b, rfl, rb⟩ := open_graph' (hval 1 _ v1 rfl rfl) h1
  obtain ⟨A, len, cap, rfl⟩ := okWide_slice Tryd.underlying34 (hval 2 _ v2 rfl rfl)
  obtain ⟨x, hx⟩ : ∃ x, IsInts W A len cap x := by
    obtain ⟨fuel, hf⟩ := h2
    rcases open_ints Tryd.underlying34 Tryd.underlying3 (by kernel_rfl) hf with ⟨hcs, _⟩ | ⟨y, l, c, zs, hcs, _, hl, hm, hz, _, hcell, hwz⟩
    · simp [Value.cells] at hcs
      obtain ⟨rfl, rfl, rfl⟩ := hcs
      exact ⟨fun _ => 0, .inl ⟨rfl, rfl⟩⟩
    · simp [Value.cells] at hcs
      obtain ⟨rfl, rfl, rfl⟩ := hcs
      obtain ⟨yb, yo, ys⟩ := y
      have hzl : zs.length = cap := by simpa using hz
      refine ⟨fun i => zs.getD i 0, .inr ⟨yb, yo, ys, rfl, hl, fun h => ?_, fun h => ?_, fun i hi => ?_⟩⟩
      · have hc := hcell 0 (by omega)
        simpa [Addr.add] using World.cell?_spot hc
      · have hc := hcell 0 (by omega)
        rcases Nat.lt_or_ge yb W.heap.size with h' | h'
        · exact h'
        · simp [World.cell?, Addr.add, Array.getElem?_eq_none h'] at hc
      · have hc := hcell i (by omega)
        have hs : ys = none := by simpa [Addr.add] using World.cell?_spot (hcell 0 (by omega))
        subst hs
        have ha : (⟨yb, yo, none⟩ : Addr).add i = ⟨yb, yo + i, none⟩ := by unfold Addr.add; by_cases h : i = 0 <;> simp [h]
        rw [ha] at hc
        exact hc
  clear hA0 hval0
  refine (renames_any na nb a b ra rb A len cap x W hx).mono fun e W' ⟨he, bel⟩ => ?_
  subst he
  exact ⟨_, rfl, _, _, _, [], _, [], hW', trodAll_mk1 (shut_bool Tryd.underlying4 _), (trodAll_cons_mk (Below.trod laidOut (by kernel_rfl) (of_decide_eq_true (by kernel_rfl)) k0 bel lt0) (trodAll_cons_mk (Below.trod laidOut (by kernel_rfl) (of_decide_eq_true (by kernel_rfl)) k1 bel lt1) (trodAll_cons_mk (Below.trod laidOut (by kernel_rfl) (of_decide_eq_true (by kernel_rfl)) k2 bel lt2) trodAll_mk0))), rfl, bel.frame _, fun h => by cases h⟩

theorem over : Rows.GraphRenamesSaid :=
  OpenClaim.holds_of_wide 6 Tryd.f6 rfl rfl rfl rfl rfl rfl rfl ⟨rfl, rfl, rfl, rfl, rfl⟩ rfl rfl rfl rfl rfl (by kernel_rfl) Tryd.func6 (by kernel_rfl)
    (of_decide_eq_true (by kernel_rfl)) (by unfold Func.isWrapper; first | (rw [if_pos (by decide +kernel)]; kernel_rfl) | (rw [if_neg (by decide +kernel)]; exact ⟨rfl, rfl⟩))
    (fun os started H enc _ => lifted os started H enc)

/-- The given statement: the row with its tables tied to the program's text. -/
theorem graphRenames_card : Rows.GraphRenamesCardSaid :=
  Claim7.holds_tied_plain_at .later [] [.data, .pinned] true Rows.graphRenamesCard.stood.harness false over (fun _ h => by cases h) (by kernel_rfl) (fun _ h => by cases h) graphRenames_row_tie rfl ⟨rfl, rfl⟩ (by kernel_rfl) rfl
    (fun f fn hf hfn => by
      obtain rfl : f = 6 := Option.some.inj ((show Tryd.prog.funcNamed "roundtable/roundtablelaw03.GraphRenames" = some 6 by kernel_rfl).symm.trans hf) |>.symm
      obtain rfl : fn = Tryd.f6 := (Option.some.inj (Tryd.func6.symm.trans hfn)).symm
      exact ⟨by kernel_rfl, fun j t ht => by
        rw [Tryd.params6] at ht
        have hm : t ∈ [24, 24, 34] := by simpa using Array.mem_of_getElem? ht
        have hall : ([24, 24, 34].all fun u => !Tryd.prog.wantsStandIn u) = true := by kernel_rfl
        exact (show Tryd.prog.wantsStandIn t = false by simpa using List.all_eq_true.1 hall t hm)⟩)
    (by kernel_rfl)
#print axioms graphRenames_card
end Go.Proofs.YtmhfhdfiepniaaaDoor
