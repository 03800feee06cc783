/- Package procset and its specification: the text of a set. -/
import Derived.Test.YtienbebbgioccabDoorPsG
import Derived.Test.YtienbebbgioccabDoorShelf
import Derived.WalkKit
import Derived.WalkSpells
import Derived.WalkLawsBesides
import Derived.Handy
import Derived.Deep.QuietTactic
import Derived.BigQuiet
import Derived.Outline
import Derived.Laws.BitsAllLaws
import Derived.IntWalk
import Derived.Lib.SmallJoins
import Derived.Lib.Hide
import Derived.Deep.DeepCutAuto
import Derived.LoopTactic
import Derived.Deep.RegionWith
import Derived.RangeFuncFrom
namespace Go.Proofs.YtienbebbgioccabDoor
set_option linter.unusedVariables false
set_option linter.unusedSimpArgs false
open Go.RowKit Go.Shelf
attribute [local go_sem] Oper.semAt_some

section
variable {F : Fence} {n : Nat} {P : Program}
/-- An append in a region that draws its order, where it alone may come up: by what its run yields. -/
theorem anyIn_append {md : Region.Mode} {ops : Array Oper} {Q : Exit → Act → World → Prop} {fuel i : Nat} {o : Oper} {listed : Array Bool} {a : Act} {w w' : World} {v' : Value}
    (hr : Region.ready md ops listed = [i]) (ho : ops[i]? = some o) (hw : Region.wanted o (yielded ops a.tmps) = true) (s x : Operand) (t : TypeId)
    (hop : o.op = Op.call { callee := Callee.builtin Builtin.append, args := #[s, x], argTypes := #[t, t] })
    (hrun : (Builtin.append_ #[t, t] o.type #[a.eval s, a.eval x]).run P w = .ok v' w')
    (h : wpAnyIn F n P md ops Q fuel (listed.setIfInBounds i true) (a.put o.dst v') w') : wpAnyIn F n P md ops Q (fuel + 1) listed a w := by
  refine wpAnyIn_ready (rs := [i]) hr (by simp) (AllReadyIn.cons ho (fun K hK => ?_) AllReadyIn.nil)
  rw [if_pos hw]
  unfold Oper.wpIn
  refine ⟨?_, ?_⟩
  · simp [Oper.about, hop, resolve, Target.leads, Sem.run_pure]
  · rw [Oper.semAt_plain F _ _ (by rw [hop]; intro c hc'; cases hc')]
    simp [execOp, hop, resolve, invoke, builtin, hrun, Result.andThen]
    exact hK _ _ h
end
/-- One digit. -/
def dg (p : Nat) : ByteArray := ⟨#[UInt8.ofNat (48 + p)]⟩

set_option maxHeartbeats 1000000 in
theorem small_ok (p : Nat) (hp : p < 5) (w : World) : Calls Tryd.prog 38 #[.int .i64 (p : Int)] w fun e w' => e = .returned (.string (dg p)) ∧ w = w' := by
  obtain rfl | rfl | rfl | rfl | rfl : p = 0 ∨ p = 1 ∨ p = 2 ∨ p = 3 ∨ p = 4 := by omega
  all_goals
    go_enter Tryd.func38, Tryd.ntmps38
    go_wp2_with fail
    go_ret
    exact ⟨by kernel_rfl, rfl⟩

set_option maxHeartbeats 1000000 in
theorem fmtint_ok (p : Nat) (hp : p < 5) (w : World) : Calls Tryd.prog 34 #[.int .i64 (p : Int), .int .i64 10] w fun e w' => e = .returned (.string (dg p)) ∧ w = w' := by
  have H := Lib.hid (fun w => small_ok p hp w)
  have h5 : (p : Int) < 5 := by omega
  clear hp
  go_enter Tryd.func34, Tryd.ntmps34
  go_wp2_with fail
  refine (H.out _).mono ?_
  rintro e w' ⟨rfl, rfl⟩
  go_wp2_with fail
  go_ret
  exact ⟨rfl, rfl⟩

set_option maxHeartbeats 1000000 in
theorem itoa0_ok (p : Nat) (hp : p < 5) (w : World) : Calls Tryd.prog 27 #[.int .i64 (p : Int)] w fun e w' => e = .returned (.string (dg p)) ∧ w = w' := by
  have H := Lib.hid (fun w => fmtint_ok p hp w)
  have h5 : (p : Int) < 5 := by omega
  clear hp
  go_enter Tryd.func27, Tryd.ntmps27
  go_wp2_with fail
  refine (H.out _).mono ?_
  rintro e w' ⟨rfl, rfl⟩
  go_wp2_with fail
  go_ret
  exact ⟨rfl, rfl⟩

set_option maxHeartbeats 1000000 in
theorem itoa_ok (p : Nat) (hp : p < 5) (w : World) : Calls Tryd.prog 21 #[.int .i64 (p : Int)] w fun e w' => e = .returned (.string (dg p)) ∧ w = w' := by
  have H := Lib.hid (fun w => itoa0_ok p hp w)
  have h5 : (p : Int) < 5 := by omega
  clear hp
  go_enter Tryd.func21, Tryd.ntmps21
  go_wp2_with fail
  refine (H.out _).mono ?_
  rintro e w' ⟨rfl, rfl⟩
  go_wp2_with fail
  go_ret
  exact ⟨rfl, rfl⟩

theorem infoS : (Tryd.prog.info? 9).map (fun i => (i.zero, i.size, i.bytes)) = some (some (.string ⟨#[]⟩), 1, 16) := by kernel_rfl
/-- Digits with commas between them. -/
def jo (l : List Nat) : ByteArray := ⟨(Lib.join ((l.map dg).map (·.data.toList)) ({ data := #[44] } : ByteArray).data.toList).toArray⟩
/-- The text of a set. -/
def txs (S : Nat) : ByteArray := ({ data := #[123] } ++ jo (mem S)) ++ { data := #[125] }
theorem mem_lt (S : Nat) : ∀ x ∈ mem S, x < 5 := by
  intro x hx
  unfold mem at hx
  exact List.mem_range.1 (List.mem_filter.1 hx).1
def memF (S : Nat) : List (Fin 5) := (mem S).pmap (fun x hx => ⟨x, hx⟩) (mem_lt S)
theorem memF_val (S : Nat) : (memF S).map Fin.val = mem S := by
  unfold memF; rw [List.map_pmap]; simp
def cellsS (l : List (Fin 5)) : List Value := l.map fun x => Value.string (dg x.val)

set_option maxRecDepth 100000 in
set_option maxHeartbeats 4000000 in
theorem format_in (N S : Nat) (h : SOk N S) (w : World) (hT : Tab w) :
    CallsIn Fence.wide 4 Tryd.prog 11 #[.int .i64 (N : Int), .int .i64 (S : Int)] w fun e W' => e = .returned (.tuple #[.string (txs S), .int .i64 0]) ∧ Below w.heap.size w W' := by
  obtain ⟨i0, hi, hz0, hz1, hz2⟩ := info_parts infoS
  have HC := Lib.hid (fun w => (callsIn_wide (n := 3)).2 (pchk_ok N S h w))
  have HE := Lib.hid (fun w => elements_in Fence.wide 3 trivial rfl (S : Int) w)
  have hs := h.lt
  have HT := Lib.hid hT
  clear h hT
  refine callsIn_of_wp_marks Tryd.func11 rfl trivial ?_ rfl
  simp only [Tryd.ntmps11, List.size_toArray, List.length_cons, List.length_nil, Nat.reduceAdd, Nat.reduceSub, Array.replicate_succ, Array.replicate_zero, List.push_toArray, List.append_toArray, List.nil_append, List.cons_append]
  gi_wp2_with (first | (refine ⟨trivial, ?_⟩; gi_at_call 8; refine (HC.out _).mono ?_; rintro e w' ⟨rfl, rfl⟩) | (refine ⟨trivial, ?_⟩; gi_at_call 17; refine (HE.out _).mono ?_; rintro e w' ⟨rfl, rfl⟩))
  have bO := Boxed.new w 38 (.slice none 0 0)
  have bN := Boxed.new (w.alloc (.cells #[.slice none 0 0] 38)) 3 (.int .i64 (S : Int))
  rw [World.size_alloc] at bN
  have hB0 : Below w.heap.size w ((w.alloc (.cells #[.slice none 0 0] 38)).alloc (.cells #[.int .i64 (S : Int)] 3)) := ((Below.refl _ w).alloc (Nat.le_refl _) _).alloc (by simp) _
  have hml : (memF S).length ≤ 5 := by
    have e : (memF S).length = (mem S).length := by rw [← memF_val S, List.length_map]
    have h2 : (mem S).length ≤ 5 := memb_le S 5
    omega
  refine wpIn_rangeFunc_ownG rfl (by omega) (gf := 25) (lb := #[.pointer (some ⟨w.heap.size + 1, 0, none⟩)]) rfl trivial (fun args w => by kernel_rfl)
    (elements_stops (fun x : Fin 5 => x.val) Fence.wide 3 trivial trivial (fun y V h1 h2 h3 => callsIn_wide.2 (tz_any y h1 h2 V h3)) rfl (by omega) (w.heap.size + 1) w.heap.size S hs HT.out.pos (memF S) (memF_val S) _ (by simp) bN.cell (HT.out.below hB0 HT.out.pos)) belowK_t (belowK_b (by simp; omega)) (Below.refl _ _) (fun _ => rfl)
    (fun pre W => (∃ v, Boxed W w.heap.size 38 v ∧ W.ownsRow w.heap.size 9 1 v pre.length (cellsS pre) ∧ (v = .slice none 0 0 ↔ pre = [])) ∧ Below w.heap.size w W)
    (fun _ _ _ => False)
    (OwnFrom.and (Own.from (holdsRow_own w.heap.size w.heap.size 38 9 1 (fun pre : List (Fin 5) => pre.length) (fun pre => cellsS pre) (fun pre v => v = .slice none 0 0 ↔ pre = [])) _) (ownFrom_below (Nat.le_refl _) (by simp; omega)))
    (fun _ _ _ _ _ hs _ _ => hs)
    ⟨⟨_, bO.alloc _, World.ownsRow_nil _ _ _ _, by simp⟩, hB0⟩
    (fun x => { tmps := #[.int .i64 (N : Int), .int .i64 (S : Int), undef, undef, .string ⟨#[]⟩, .int .i64 0, .int .i64 0, .pointer (some ⟨w.heap.size, 0, none⟩), .int .i64 (x.val : Int), .int .i64 (N : Int), .int .i64 (S : Int), .int .i64 0, .int .i64 0, .bool false, undef, .int .i64 (S : Int), .func (.func 25) #[] #[.pointer (some ⟨w.heap.size + 1, 0, none⟩)], .int .i64 (x.val : Int), undef, undef, undef, undef, undef, undef, undef, undef, undef], defers := [] }) ?assign ?body ?done ?stop
  case assign =>
    intro l x W K hK
    gi_wp2
    exact hK
  case body =>
    rintro l pre x W ⟨⟨v, hv, hrow, hnil⟩, hB⟩ hlt
    have HO := Lib.hid (fun w => itoa_ok x.val x.isLt w)
    have kd : Below w.heap.size W W.drew := below_dn 1 (Below.refl _ _)
    have hvd : Boxed W.drew w.heap.size 38 v := hv
    have hrowd : W.drew.ownsRow w.heap.size 9 1 v pre.length (cellsS pre) := hrow
    have hBd : Below w.heap.size w W.drew := hB.trans kd
    have hc := hvd.cell
    obtain ⟨v', w2, hrun, hown', hgrow, _⟩ := run_append_own (P := Tryd.prog) (W.drew.alloc (.cells #[.string (dg x.val)] 9)) w.heap.size 38 38 9 i0 (.string ⟨#[]⟩) 1 16 Tryd.underlying38 hi hz0 hz1 hz2 rfl (by decide) v pre.length (cellsS pre) (hrowd.alloc _) ⟨W.drew.heap.size, 0, none⟩ 1 1 [.string (dg x.val)] rfl (cell_one_new _ _ _) (by simp [Value.oneCell']) (by unfold maxLen; omega) (by omega) (by have := hBd.size; simp; simp at this; omega)
    obtain ⟨g', cap', rfl⟩ := ownsRow_succ hown'
    obtain ⟨hv1, hv2, hr2, hk2, hb2⟩ := hvd.appended (by decide) hrowd hBd.size (Nat.le_refl _) hown' hgrow
    have hc1 := hv1.cell
    have hf1 := hv1.frozen
    have hca := (hv.alloc (.cells #[.string (dg x.val)] 9)).cell
    have hmx : Tryd.prog.follows .mixedOrders = true := by kernel_rfl
    gi_wp2
    refine wpIn_region_any hmx ?_
    try (change wpAnyIn _ _ _ _ _ _ _ _ _ (World.drew _))
    refine wpAnyIn_ready (rs := [0, 1]) (by kernel_rfl) (by simp) ?_
    refine AllReadyIn.cons rfl (fun K hK => ?_) ?_
    · go_simp
      try (refine hK _ _ ?_; clear hK K)
      refine wpAnyIn_ready (rs := [1]) (by kernel_rfl) (by simp) ?_
      refine AllReadyIn.cons rfl (fun K hK => ?_) ?_
      · go_simp
        try (refine hK _ _ ?_; clear hK K)
        refine wpAnyIn_ready (rs := [2]) (by kernel_rfl) (by simp) ?_
        refine AllReadyIn.cons rfl (fun K hK => ?_) ?_
        · go_simp
          gi_wp2_with (refine ⟨trivial, ?_⟩; gi_at_call 21; refine (CallsIn.inRound l (callsIn_wide.2 (HO.out _))).mono ?_; rintro e w' ⟨rfl, rfl⟩)
          try (refine hK _ _ ?_; clear hK K)
          refine wpAnyIn_ready (rs := [3]) (by kernel_rfl) (by simp) ?_
          refine AllReadyIn.cons rfl (fun K hK => ?_) ?_
          · go_simp
            try (refine hK _ _ ?_; clear hK K)
            apply anyIn_append (i := 4) (v' := .slice (some ⟨g', 0, none⟩) (pre.length + 1) cap') (w' := w2) (s := .tmp 18) (x := .tmp 21) (t := 38)
            case hr => kernel_rfl
            case ho => rfl
            case hw => rfl
            case hop => rfl
            case hrun => exact hrun
            refine wpAnyIn_ready (rs := [5]) (by kernel_rfl) (by simp) ?_
            refine AllReadyIn.cons rfl (fun K hK => ?_) ?_
            · go_simp
              try (refine hK _ _ ?_; clear hK K)
              refine wpAnyIn_done (by kernel_rfl) ?_ _
              gi_wp2
              exact ⟨((KeepsOthers.drew _).trans hk2).from _, kd.trans hb2, ⟨_, hv2, by unfold cellsS; rw [List.map_append, List.length_append]; exact hr2, by simp⟩, hBd.trans hb2⟩
            exact AllReadyIn.nil
          exact AllReadyIn.nil
        exact AllReadyIn.nil
      exact AllReadyIn.nil
    refine AllReadyIn.cons rfl (fun K hK => ?_) ?_
    · go_simp
      try (refine hK _ _ ?_; clear hK K)
      refine wpAnyIn_ready (rs := [0, 2]) (by kernel_rfl) (by simp) ?_
      refine AllReadyIn.cons rfl (fun K hK => ?_) ?_
      · go_simp
        try (refine hK _ _ ?_; clear hK K)
        refine wpAnyIn_ready (rs := [2]) (by kernel_rfl) (by simp) ?_
        refine AllReadyIn.cons rfl (fun K hK => ?_) ?_
        · go_simp
          gi_wp2_with (refine ⟨trivial, ?_⟩; gi_at_call 21; refine (CallsIn.inRound l (callsIn_wide.2 (HO.out _))).mono ?_; rintro e w' ⟨rfl, rfl⟩)
          try (refine hK _ _ ?_; clear hK K)
          refine wpAnyIn_ready (rs := [3]) (by kernel_rfl) (by simp) ?_
          refine AllReadyIn.cons rfl (fun K hK => ?_) ?_
          · go_simp
            try (refine hK _ _ ?_; clear hK K)
            apply anyIn_append (i := 4) (v' := .slice (some ⟨g', 0, none⟩) (pre.length + 1) cap') (w' := w2) (s := .tmp 18) (x := .tmp 21) (t := 38)
            case hr => kernel_rfl
            case ho => rfl
            case hw => rfl
            case hop => rfl
            case hrun => exact hrun
            refine wpAnyIn_ready (rs := [5]) (by kernel_rfl) (by simp) ?_
            refine AllReadyIn.cons rfl (fun K hK => ?_) ?_
            · go_simp
              try (refine hK _ _ ?_; clear hK K)
              refine wpAnyIn_done (by kernel_rfl) ?_ _
              gi_wp2
              exact ⟨((KeepsOthers.drew _).trans hk2).from _, kd.trans hb2, ⟨_, hv2, by unfold cellsS; rw [List.map_append, List.length_append]; exact hr2, by simp⟩, hBd.trans hb2⟩
            exact AllReadyIn.nil
          exact AllReadyIn.nil
        exact AllReadyIn.nil
      refine AllReadyIn.cons rfl (fun K hK => ?_) ?_
      · go_simp
        gi_wp2_with (refine ⟨trivial, ?_⟩; gi_at_call 21; refine (CallsIn.inRound l (callsIn_wide.2 (HO.out _))).mono ?_; rintro e w' ⟨rfl, rfl⟩)
        try (refine hK _ _ ?_; clear hK K)
        refine wpAnyIn_ready (rs := [0, 3]) (by kernel_rfl) (by simp) ?_
        refine AllReadyIn.cons rfl (fun K hK => ?_) ?_
        · go_simp
          try (refine hK _ _ ?_; clear hK K)
          refine wpAnyIn_ready (rs := [3]) (by kernel_rfl) (by simp) ?_
          refine AllReadyIn.cons rfl (fun K hK => ?_) ?_
          · go_simp
            try (refine hK _ _ ?_; clear hK K)
            apply anyIn_append (i := 4) (v' := .slice (some ⟨g', 0, none⟩) (pre.length + 1) cap') (w' := w2) (s := .tmp 18) (x := .tmp 21) (t := 38)
            case hr => kernel_rfl
            case ho => rfl
            case hw => rfl
            case hop => rfl
            case hrun => exact hrun
            refine wpAnyIn_ready (rs := [5]) (by kernel_rfl) (by simp) ?_
            refine AllReadyIn.cons rfl (fun K hK => ?_) ?_
            · go_simp
              try (refine hK _ _ ?_; clear hK K)
              refine wpAnyIn_done (by kernel_rfl) ?_ _
              gi_wp2
              exact ⟨((KeepsOthers.drew _).trans hk2).from _, kd.trans hb2, ⟨_, hv2, by unfold cellsS; rw [List.map_append, List.length_append]; exact hr2, by simp⟩, hBd.trans hb2⟩
            exact AllReadyIn.nil
          exact AllReadyIn.nil
        refine AllReadyIn.cons rfl (fun K hK => ?_) ?_
        · go_simp
          try (refine hK _ _ ?_; clear hK K)
          refine wpAnyIn_ready (rs := [0]) (by kernel_rfl) (by simp) ?_
          refine AllReadyIn.cons rfl (fun K hK => ?_) ?_
          · go_simp
            try (refine hK _ _ ?_; clear hK K)
            apply anyIn_append (i := 4) (v' := .slice (some ⟨g', 0, none⟩) (pre.length + 1) cap') (w' := w2) (s := .tmp 18) (x := .tmp 21) (t := 38)
            case hr => kernel_rfl
            case ho => rfl
            case hw => rfl
            case hop => rfl
            case hrun => exact hrun
            refine wpAnyIn_ready (rs := [5]) (by kernel_rfl) (by simp) ?_
            refine AllReadyIn.cons rfl (fun K hK => ?_) ?_
            · go_simp
              try (refine hK _ _ ?_; clear hK K)
              refine wpAnyIn_done (by kernel_rfl) ?_ _
              gi_wp2
              exact ⟨((KeepsOthers.drew _).trans hk2).from _, kd.trans hb2, ⟨_, hv2, by unfold cellsS; rw [List.map_append, List.length_append]; exact hr2, by simp⟩, hBd.trans hb2⟩
            exact AllReadyIn.nil
          exact AllReadyIn.nil
        exact AllReadyIn.nil
      exact AllReadyIn.nil
    exact AllReadyIn.nil
  case done =>
    rintro D ys W hD rfl ⟨⟨v, hv, hrow, hnil⟩, hB⟩ hK
    have hpj : (({ data := #[44] } : ByteArray).data.toList).length = 1 := rfl
    have hjl : (Lib.join (((mem S).map dg).map (·.data.toList)) ({ data := #[44] } : ByteArray).data.toList).length ≤ 20 := by
      have hm5 : (mem S).length ≤ 5 := memb_le S 5
      have h1 : ∀ L : List Nat, (Lib.join ((L.map dg).map (·.data.toList)) ({ data := #[44] } : ByteArray).data.toList).length ≤ 2 * L.length := by
        intro L
        cases L with
        | nil => simp [Lib.join_nil]
        | cons x r =>
          rw [List.map_cons, List.map_cons, Lib.join_cons, List.length_append, Lib.joinTail_length]
          have : ∀ M : List Nat, Lib.lens ((M.map dg).map (·.data.toList)) = M.length := by
            intro M
            induction M with
            | nil => rfl
            | cons y q ih =>
              simp only [Lib.lens, List.map_cons, List.sum_cons, List.length_cons] at ih ⊢
              rw [ih]
              show 1 + _ = _
              omega
          rw [this]
          simp [dg]
          omega
      have := h1 (mem S)
      omega
    have HJ : Hid (∀ V V', V = V' → (v = .slice none 0 0 ∨ True) → Boxed V w.heap.size 38 v → V.ownsRow w.heap.size 9 1 v (memF S).length (cellsS (memF S)) → CallsIn Fence.wide 3 Tryd.prog 22 #[v, .string { data := #[44] }] V fun e W' => e = .returned (.string (jo (mem S))) ∧ Below V.heap.size V W') := Lib.hid (by
      intro V V' _ _ hbx hro
      refine callsIn_wide.2 ?_
      rcases hro.2 with ⟨rfl, h0⟩ | ⟨g, cap, cur, rfl, hHL, hLc, hcl, hcm, hcs, htk⟩
      · have hm0 : mem S = [] := by rw [← memF_val S, List.length_eq_zero_iff.1 h0]; rfl
        refine (Tryd.strings_Join_none none 0 { data := #[44] } V).mono ?_
        rintro e W' ⟨rfl, rfl⟩
        refine ⟨?_, Below.refl _ _⟩
        rw [hm0]
        rfl
      · have hcells := hro.cells (g := g) rfl
        have hle : ((mem S).map dg).length = (memF S).length := by rw [← memF_val S]; simp
        have key := Tryd.strings_Join g 0 cap ((mem S).map dg) { data := #[44] } V (fun j x hj => by
          have hadd : (⟨g, 0, none⟩ : Addr).add j = ⟨g, j, none⟩ := by unfold Addr.add; split <;> simp_all
          have := hcells j (.string x) (by
            unfold cellsS
            rw [← memF_val S, List.map_map, List.getElem?_map] at hj
            rw [List.getElem?_map]
            cases hq : (memF S)[j]? with
            | none => rw [hq] at hj; cases hj
            | some y => rw [hq] at hj; simp at hj; simp [← hj])
          rw [hadd] at this
          rw [Nat.zero_add]; exact this) (Array.getElem?_eq_some_iff.1 hLc).1 (by rw [hle]; omega) (by rw [hle]; exact hcl) (by omega)
        rw [hle] at key
        exact key)
    have hc := hv.cell
    have hjs : (jo (mem S)).size ≤ 20 := by
      have e : (jo (mem S)).size = (Lib.join (((mem S).map dg).map (·.data.toList)) ({ data := #[44] } : ByteArray).data.toList).length := by unfold jo; show Array.size _ = _; simp
      rw [e]; exact hjl
    have HX : Hid (txs S = ({ data := #[123] } ++ jo (mem S)) ++ { data := #[125] }) := Lib.hid rfl
    obtain ⟨X, hX⟩ : ∃ X, jo (mem S) = X := ⟨_, rfl⟩
    rw [hX] at HJ HX hjs
    clear hX hjl hpj
    gi_wp2_with (refine ⟨trivial, ?_⟩; gi_at_call 22; refine (HJ.out _ _ rfl (.inr trivial) hv hrow).mono ?_; rintro e w5 ⟨rfl, hb5⟩)
    have hDlt : D < W.heap.size := (Array.getElem?_eq_some_iff.1 hK).1
    have hK5 := (hb5.block D hDlt).trans hK
    refine ⟨by simp, .inl ⟨_, _, rfl, run_takeDeferred hK5, ?_⟩⟩
    refine ⟨.tuple #[.string (({ data := #[123] } ++ X) ++ { data := #[125] }), .int .i64 0], ?_, by rw [HX.out], ?_⟩
    · simp [results, Tryd.f11, go_sem]
    · exact (hB.trans (Joins.below_le hb5 hB.size)).trans (belowK_b (w := w) (Nat.le_refl _) w5 D _ _ (by simp at hD; omega) hK5 rfl rfl)
  case stop =>
    rintro D c pre W _ _ h _
    exact h.elim
theorem format_okn (N S : Nat) (h : SOk N S) (w : World) (hT : Tab w) : Calls Tryd.prog 11 #[.int .i64 (N : Int), .int .i64 (S : Int)] w fun e W' => e = .returned (.tuple #[.string (txs S), .int .i64 0]) ∧ Below w.heap.size w W' :=
  callsIn_wide.1 (format_in N S h w hT)
theorem format_bad (n s c : Int) (h0 : c ≠ 0) (Hc : ∀ w, Calls Tryd.prog 8 #[.int .i64 n, .int .i64 s] w fun e w' => e = .returned (.int .i64 c) ∧ w = w') (w : World) : Calls Tryd.prog 11 #[.int .i64 n, .int .i64 s] w fun e w' => e = .returned (.tuple #[.string ⟨#[]⟩, .int .i64 c]) ∧ w = w' := by
  have H := Lib.hid Hc
  have hb : (c != 0) = true := by simpa using h0
  clear Hc h0
  go_enter Tryd.func11, Tryd.ntmps11
  go_wp2_with fail
  refine (H.out _).mono ?_
  rintro e w' ⟨rfl, rfl⟩
  go_wp2_with fail
  go_ret2
  exact ⟨rfl, rfl⟩
end Go.Proofs.YtienbebbgioccabDoor
