/- PermutationGenerates. -/
import Derived.Test.YtgppdbiimlbpjaaDoorRxH
import Derived.WalkKit
import Derived.WalkSpells
import Derived.WalkLawsBesides
import Derived.Handy
import Derived.Deep.QuietTactic
import Derived.BigQuiet
import Derived.Outline
import Derived.Laws.BitsAllLaws
import Derived.IntWalk
import Derived.Lib.SmallJoins
import Derived.Lib.Hide
import Derived.Deep.DeepCutAuto
import Derived.LoopTactic
import Derived.Deep.RegionWith
import Derived.Laws.CopyOwn
import Derived.Maps.OwnOps
import Derived.Maps.OwnSet
import Derived.Laws.OwnMore
import Derived.Maps.AppendAt
import Derived.Test.YtgppdbiimlbpjaaDoorShelF
import Derived.RangeFuncNested
import Derived.RangeFuncBound
import Derived.RangeFuncCalls
import Derived.RangeFuncLeaves
import Derived.RangeFuncBox
import Derived.RangeFuncFrom
import Derived.Shelf.Abstract
import Derived.Shelf.RegionOpen
import Derived.OwnWalkIn
import Derived.TacticsInMore
import Derived.LoopNIn
import Derived.LoopIn
import Derived.Deep.Matrix
namespace Go.Proofs.YtgppdbiimlbpjaaDoor
set_option linter.unusedVariables false
set_option linter.unusedSimpArgs false
open Go.RowKit


theorem Lw.below {w W : World} {o : Option Addr} {K : Nat} {oc : Nat → Option Addr} {nc cc : Nat → Nat} {xc : Nat → Nat → Int} (h : Lw w o K oc nc cc xc) (hb : Below w.heap.size w W) : Lw W o K oc nc cc xc := fun hn => by
  obtain ⟨b, off, e, h1, h2⟩ := h hn
  exact ⟨b, off, e, Nat.lt_of_lt_of_le h1 hb.size, fun c hc => ⟨(hb.cell (p := ⟨b, off + c, none⟩) h1).trans (h2 c hc).1, (h2 c hc).2.below hb⟩⟩
open Go.Deep Go.ChangeShapes Go.WideShapes Go.ChangeAt in
theorem lw_of {H : Type} {enc : TypeId × Value → H} {W : World} {o : Option Addr} {len cap : Nat} {x : DataW H × List MemPlace} (h : ∃ fuel, DataW.trod enc Tryd.prog W 0 (fun _ => true) true fuel 45 (Value.slice o len cap).cells.toList = some x) : ∃ oc nc cc xc, Lw W o len oc nc cc xc := by
  obtain ⟨fuel, hf⟩ := h
  have lt_of : ∀ (b i : Nat) v, W.cell? ⟨b, i, none⟩ = some v → b < W.heap.size := fun b i v hc => by
    rcases Nat.lt_or_ge b W.heap.size with h | h
    · exact h
    · simp [World.cell?, Array.getElem?_eq_none h] at hc
  rcases open_int_rows Tryd.underlying45 Tryd.underlying22 Tryd.underlying3 (by kernel_rfl) (by kernel_rfl) hf with ⟨hcs, _⟩ | ⟨a, l, c, A, Ln, C, Z, hcs, _, hl, hm, _, hr⟩
  · simp [Value.cells] at hcs
    obtain ⟨rfl, rfl, rfl⟩ := hcs
    exact ⟨fun _ => none, fun _ => 0, fun _ => 0, fun _ _ => 0, fun hn => absurd hn (Nat.not_lt_zero _)⟩
  · simp [Value.cells] at hcs
    obtain ⟨rfl, rfl, rfl⟩ := hcs
    refine ⟨A, Ln, C, fun r i => (Z r).getD i 0, fun hn => ?_⟩
    obtain ⟨ab, ao, asp⟩ := a
    have h0 := (hr 0 (by omega)).1
    have hs : asp = none := by simpa [Addr.add] using World.cell?_spot h0
    subst hs
    have hadd : ∀ (b o i : Nat), (⟨b, o, none⟩ : Addr).add i = ⟨b, o + i, none⟩ := fun b o i => by unfold Addr.add; by_cases h : i = 0 <;> simp [h]
    refine ⟨ab, ao, rfl, ?_, fun r hrl => ?_⟩
    · rw [hadd] at h0
      exact lt_of _ _ _ h0
    · obtain ⟨e1, e2, e3, e4, e5, e6, e7⟩ := hr r (by omega)
      rw [hadd] at e1
      refine ⟨e1, fun hl0 => ?_, e2⟩
      cases hA : A r with
      | none =>
        have := e6 hA
        omega
      | some a' =>
        obtain ⟨bb, oo, ss⟩ := a'
        have hc7 := (e7 _ hA).2
        have hs : ss = none := by simpa [Addr.add] using World.cell?_spot (hc7 0 (by omega))
        subst hs
        have hc0 := hc7 0 (by omega)
        rw [hadd] at hc0
        exact ⟨bb, oo, rfl, lt_of _ _ _ hc0, fun i hi => by
          have := hc7 i (by omega)
          rwa [hadd] at this⟩
theorem rgen_bad (z : Int) (c : Int) (h0 : c ≠ 0) (o : Option Addr) (K cap : Nat) (w : World) (hl : Calls Tryd.prog 44 #[.int .i64 z, .slice o K cap] w fun e w' => e = .returned (.int .i64 c) ∧ Below w.heap.size w w') : Calls Tryd.prog 35 #[.int .i64 z, .slice o K cap] w (QRes 0 (fun _ => 0) c w) := by
  have H := Lib.hid hl
  have g1 : (c != 0) = true := by rw [bne_iff_ne]; exact h0
  clear hl h0
  go_enter Tryd.func35, Tryd.ntmps35
  go_wp2_with fail
  refine H.out.mono ?_
  rintro e w1 ⟨rfl, hb⟩
  have HB := Lib.hid hb
  clear hb
  go_wp2_with fail
  go_ret2
  exact ⟨_, _, rfl, ⟨Lz.nil, by omega⟩, HB.out⟩
theorem rgen_good (n : Nat) (h1 : 1 ≤ n) (h5 : n ≤ 5) (K : Nat) (hK : K ≤ 1024) (S : Nat → List Nat) (hS : ∀ k, k < K → S k ∈ pl n) (o : Option Addr) (cap : Nat) (w : World) (hL : Ps w o K n S) (hl : Calls Tryd.prog 44 #[.int .i64 (n : Int), .slice o K cap] w fun e w' => e = .returned (.int .i64 0) ∧ Below w.heap.size w w') :
    Calls Tryd.prog 35 #[.int .i64 (n : Int), .slice o K cap] w fun e w' => ∃ o' cap', e = .returned (.tuple #[.slice o' (inAll n (grp n S K)).length cap', .int .i64 0]) ∧ Lr w' o' n (inAll n (grp n S K)) ∧ Below w.heap.size w w' := by
  have H := Lib.hid hl
  have HP : Hid (∀ W, Below w.heap.size w W → Ps W o K n S) := Lib.hid fun W hb hn => by
    obtain ⟨b, off, e, hlt, hc⟩ := hL hn
    refine ⟨b, off, e, Nat.lt_of_lt_of_le hlt hb.size, fun k hk => ?_⟩
    obtain ⟨oc, cc, e1, e2⟩ := hc k hk
    exact ⟨oc, cc, (hb.cell (p := ⟨b, off + k, none⟩) hlt).trans e1, e2.below hb⟩
  have HC := Lib.hid (fun W (h : Ps W o K n S) => closure_ok n h1 h5 K hK S hS o cap W h)
  clear hl hL hS
  go_enter Tryd.func35, Tryd.ntmps35
  go_wp2_with fail
  refine H.out.mono ?_
  rintro e w1 ⟨rfl, hb⟩
  have HB := Lib.hid hb
  clear hb
  go_wp2_with fail
  refine (HC.out _ (HP.out _ HB.out)).mono ?_
  rintro e w2 ⟨o', cap', rfl, hl2, hb2⟩
  have HL2 := Lib.hid hl2
  have HB2 := Lib.hid (HB.out.trans (Joins.below_le hb2 HB.out.size))
  clear hl2 hb2
  go_wp2_with fail
  go_ret2
  exact ⟨_, _, rfl, HL2.out, HB2.out⟩
theorem lgo_zero {n K : Nat} {nc : Nat → Nat} {xc : Nat → Nat → Int} (h : lgo n nc xc K 0 = 0) : ∀ c, c < K → pcode (nc c) (xc c) = 0 ∧ nc c = n := by
  have key : ∀ m c, c + m = K → lgo n nc xc m c = 0 → ∀ d, c ≤ d → d < K → pcode (nc d) (xc d) = 0 ∧ nc d = n := by
    intro m
    induction m with
    | zero => intro c hc _ d h1 h2; omega
    | succ m ih =>
      intro c hc hz d h1 h2
      have e : lgo n nc xc (m + 1) c = if pcode (nc c) (xc c) ≠ 0 then pcode (nc c) (xc c) else if nc c ≠ n then 22 else lgo n nc xc m (c + 1) := rfl
      rw [e] at hz
      by_cases hp : pcode (nc c) (xc c) = 0
      · rw [if_neg (by simp [hp])] at hz
        by_cases hn : nc c = n
        · rw [if_neg (by simp [hn])] at hz
          by_cases hd : d = c
          · subst hd; exact ⟨hp, hn⟩
          · exact ih (c + 1) (by omega) hz d (by omega) h2
        · rw [if_pos hn] at hz; omega
      · rw [if_pos hp] at hz; exact absurd hz hp
  exact fun c hc => key K 0 (by omega) h c (by omega) hc
/-- The lists of permutations as lists of numbers. -/
def Sof (nc : Nat → Nat) (xc : Nat → Nat → Int) : Nat → List Nat := fun c => lo (nc c) fun i => (xc c i).toNat
theorem sof_ps {n K : Nat} {oc : Nat → Option Addr} {nc cc : Nat → Nat} {xc : Nat → Nat → Int} (hz : ∀ c, c < K → pcode (nc c) (xc c) = 0 ∧ nc c = n) {w : World} {o : Option Addr} (hL : Lw w o K oc nc cc xc) : Ps w o K n (Sof nc xc) := fun hn => by
  obtain ⟨b, off, e, hlt, hc⟩ := hL hn
  refine ⟨b, off, e, hlt, fun k hk => ?_⟩
  obtain ⟨z1, z2⟩ := hz k hk
  obtain ⟨e1, e2⟩ := hc k hk
  rw [z2] at e1 e2
  refine ⟨oc k, cc k, e1, e2.as fun i hi => ?_⟩
  have h3 := (pcode_perm z1).2 i (by omega)
  unfold Sof zf
  rw [z2, lo_at hi]
  exact h3
theorem sof_mem {n K : Nat} {nc : Nat → Nat} {xc : Nat → Nat → Int} (hz : ∀ c, c < K → pcode (nc c) (xc c) = 0 ∧ nc c = n) : ∀ k, k < K → Sof nc xc k ∈ pl n := fun k hk => by
  obtain ⟨z1, z2⟩ := hz k hk
  have h0 := (pcode_zero z1).1
  have h2 := pcode_perm z1
  have hm := lo_mem (⟨h0.1, h0.2, h2.1⟩ : Good (nc k) _)
  rw [z2] at hm
  unfold Sof
  rw [z2]
  exact hm
theorem gs_grp {n : Nat} (h1 : 1 ≤ n) (h5 : n ≤ 5) {K : Nat} {S : Nat → List Nat} (hS : ∀ k, k < K → S k ∈ pl n) : Gs n (grp n S K) := by
  have key : ∀ f i G, Gs n G → Gs n (gl S K f i G) := by
    intro f
    induction f with
    | zero => intro i G h; exact h
    | succ f ih =>
      intro i G h
      show Gs n (if i < G.length then gl S K f (i + 1) (gin S (G.getD i []) G K) else G)
      by_cases hi : i < G.length
      · rw [if_pos hi]
        exact ih _ _ (h.gin h1 h5 hS (h.at_ hi) K (Nat.le_refl _))
      · rw [if_neg hi]; exact h
  exact key 200 0 _ ⟨by simp, fun l hl => by simp at hl; subst hl; exact lo_mem ⟨h1, h5, fun p hp => hp, fun p q _ _ e => e⟩⟩
theorem gen_two (z : Int) (K : Nat) (oc : Nat → Option Addr) (nc cc : Nat → Nat) (xc : Nat → Nat → Int) : ∃ (k : Nat) (LL : Nat → List Int) (c : Int), k ≤ 65536 ∧ (∀ c, c < k → (LL c).length ≤ 1000000) ∧
    (∀ o cap w, Lw w o K oc nc cc xc → Calls Tryd.prog 34 #[.int .i64 z, .slice o K cap] w (LLRes k LL c w)) ∧ (∀ o cap w, Lw w o K oc nc cc xc → Calls Tryd.prog 35 #[.int .i64 z, .slice o K cap] w (LLRes k LL c w)) := by
  have none_ : ∀ c, c < 0 → (il [] c).length ≤ 1000000 := fun c hc => absurd hc (Nat.not_lt_zero _)
  by_cases h : z < 1 ∨ 5 < z
  · exact ⟨0, il [], 2, by omega, none_, fun o cap w _ => (gen_range z h o K cap w).mono fun _ _ => ll_bad, fun o cap w _ => (rgen_bad z 2 (by omega) o K cap w (rlist_range z h o K cap w)).mono fun _ _ => ll_bad⟩
  · obtain ⟨n, rfl⟩ := Int.eq_ofNat_of_zero_le (show 0 ≤ z by omega)
    have h1 : 1 ≤ n := by omega
    have h5 : n ≤ 5 := by omega
    by_cases hK : 1024 < K
    · exact ⟨0, il [], 5, by omega, none_, fun o cap w _ => (gen_many n h1 h5 o K cap hK w).mono fun _ _ => ll_bad, fun o cap w _ => (rgen_bad n 5 (by omega) o K cap w (rlist_many n h1 h5 o K cap hK w)).mono fun _ _ => ll_bad⟩
    · have hK' : K ≤ 1024 := by omega
      by_cases hr : lgo n nc xc K 0 = 0
      · have hz := lgo_zero hr
        have hS := sof_mem hz
        have hgs := gs_grp h1 h5 hS
        have hlen := inAll_len h5 hgs
        have hl : ∀ l ∈ inAll n (grp n (Sof nc xc) K), l.length = n := fun l hm => (pl_good h1 h5 (List.mem_filter.1 hm).1).1
        have h120 := hgs.len h5
        refine ⟨(inAll n (grp n (Sof nc xc) K)).length, il (inAll n (grp n (Sof nc xc) K)), 0, by omega, il_len h5 hl, fun o cap w hw => ?_, fun o cap w hw => ?_⟩
        · refine (gen_good n h1 h5 K hK' _ hS o cap w (sof_ps hz hw)).mono fun _ _ ⟨o', cap', e, hp, hb⟩ => ll_of hl ⟨o', cap', by rw [hlen]; exact e, by rw [hlen]; exact hp.lp, hb⟩
        · refine (rgen_good n h1 h5 K hK' _ hS o cap w (sof_ps hz hw) (by have := rlist_any n h1 h5 o K cap hK' oc nc cc xc w hw; rwa [hr] at this)).mono fun _ _ ⟨o', cap', e, hp, hb⟩ => ll_of hl ⟨o', cap', e, hp.lp, hb⟩
      · exact ⟨0, il [], lgo n nc xc K 0, by omega, none_, fun o cap w hw => (gen_wrong n h1 h5 o K cap hK' oc nc cc xc w hw _ rfl hr).mono fun _ _ => ll_bad, fun o cap w hw => (rgen_bad n _ hr o K cap w (rlist_any n h1 h5 o K cap hK' oc nc cc xc w hw)).mono fun _ _ => ll_bad⟩
set_option maxRecDepth 100000 in
set_option maxHeartbeats 4000000 in
theorem generates_ok (z : Int) (K cap : Nat) (o : Option Addr) (oc : Nat → Option Addr) (nc cc : Nat → Nat) (xc : Nat → Nat → Int) (w : World) (hL : Lw w o K oc nc cc xc) : Calls Tryd.prog 6 #[.int .i64 z, .slice o K cap] w fun e w' => e = .returned (.bool true) ∧ Below w.heap.size w w' := by
  have B := Lib.hid (Below.refl w.heap.size w)
  have HF := Lib.hid (few_any K o cap oc nc cc w (fun hn => by obtain ⟨b, off, e, _, h2⟩ := hL hn; exact ⟨b, off, e, fun c hc => (h2 c hc).1⟩))
  obtain ⟨k, LL, c, hk, hl, hg1, hg2⟩ := gen_two z K oc nc cc xc
  have Hk := Lib.hid hk
  have Hl := Lib.hid hl
  have Hg1 := Lib.hid hg1
  have Hg2 := Lib.hid hg2
  have La := Lib.hid hL
  clear hk hl hg1 hg2 hL
  go_enter Tryd.func6, Tryd.ntmps6
  go_wp2_with fail
  refine HF.out.mono ?_
  rintro e w' ⟨⟨r, rfl⟩, rfl⟩
  cases r with
  | false =>
    clear La
    go_wp2_with fail
    refine (awake_ok _).mono ?_
    rintro e W1 ⟨rfl, hb⟩
    replace B := Lib.hid (B.out.trans (Joins.below_le hb B.out.size))
    clear hb 
    go_wp2_with fail
    go_ret
    exact ⟨rfl, B.out⟩
  | true =>
    go_wp2_with fail
    refine (Hg1.out _ _ _ La.out).mono ?_
    rintro e W1 ⟨o1, p1, rfl, hl, hb⟩
    replace La := Lib.hid (La.out.below hb)
    replace B := Lib.hid (B.out.trans (Joins.below_le hb B.out.size))
    have A1 := Lib.hid hl
    clear hb hl
    go_wp2_with fail
    refine (Hg2.out _ _ _ La.out).mono ?_
    rintro e W2 ⟨o2, p2, rfl, hl, hb⟩
    replace La := Lib.hid (La.out.below hb)
    replace A1 := Lib.hid (A1.out.below hb)
    replace B := Lib.hid (B.out.trans (Joins.below_le hb B.out.size))
    have A2 := Lib.hid hl
    clear hb hl
    clear La
    go_wp2_with fail
    refine (awake_ok _).mono ?_
    rintro e W3 ⟨rfl, hb⟩
    replace A1 := Lib.hid (A1.out.below hb)
    replace A2 := Lib.hid (A2.out.below hb)
    replace B := Lib.hid (B.out.trans (Joins.below_le hb B.out.size))
    clear hb 
    go_wp2_with fail
    refine (samelists_b k Hk.out LL Hl.out _ _ _ _ _ A1.out A2.out).mono ?_
    rintro e W4 ⟨rfl, hb⟩
    replace A1 := Lib.hid (A1.out.below hb)
    replace A2 := Lib.hid (A2.out.below hb)
    replace B := Lib.hid (B.out.trans (Joins.below_le hb B.out.size))
    clear hb 
    clear A1 A2
    go_wp2_with fail
    go_ret
    exact ⟨rfl, B.out⟩

end Go.Proofs.YtgppdbiimlbpjaaDoor
