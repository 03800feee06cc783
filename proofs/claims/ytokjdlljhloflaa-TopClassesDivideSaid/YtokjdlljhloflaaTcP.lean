/- slices.Concat of two rows of integers. -/
import Derived.Test.YtokjdlljhloflaaTcN
import Derived.Test.YtokjdlljhloflaaShelG
import Derived.WalkKit
import Derived.WalkSpells
import Derived.WalkLawsBesides
import Derived.Handy
import Derived.Deep.QuietTactic
import Derived.BigQuiet
import Derived.Outline
import Derived.Laws.BitsAllLaws
import Derived.IntWalk
import Derived.Lib.SmallJoins
import Derived.Lib.Hide
import Derived.Deep.DeepCutAuto
import Derived.LoopTactic
import Derived.Deep.RegionWith
namespace Go.Proofs.Ytokjdlljhloflaa
set_option linter.unusedVariables false
set_option linter.unusedSimpArgs false
open Go.RowKit Part


theorem plus_addr (b o k : Nat) : (⟨b, o, none⟩ : Addr).add k = ⟨b, o + k, none⟩ := by
  by_cases h : k = 0
  · subst h; simp [Addr.add]
  · simp [Addr.add, h]
theorem run_law {ops : Array Oper} {rest : List Oper} {o : Oper} {a : Act} {Q : Exit → Act → World → Prop} (w : World) (hgd : o.guard = none) (s x : Operand) (t : TypeId)
    (ho : o.op = .call { callee := .builtin .append, args := #[s, x], argTypes := #[t, t] }) (v u v' : Value) (w' : World) (hs : a.eval s = v) (hx : a.eval x = u) (hr : (Builtin.append_ #[t, t] o.type #[v, u]).run Try.prog w = .ok v' w')
    (h : wpList Try.prog ops Q rest (a.put o.dst v') w') : wpList Try.prog ops Q (o :: rest) a w := by
  refine wpList_plain hgd fun K hK => ?_
  unfold Oper.wp execOp
  simp only [ho, resolve, invoke, builtin, Sem.run_bind, Sem.run_pure, Result.andThen_ok, List.map_toArray, List.map_cons, List.map_nil, hs, hx, hr]
  exact hK _ _ h
/-- A list is appended to a row of the call's own. -/
theorem app_rowl (W : World) (R : Nat) (v : Value) (l m : List Int) (hrow : Row W R v l) (o : Option Addr) (cap : Nat) (hL : Lz W o m.length fun i => m.getD i 0) (hb : l.length + m.length ≤ 1000000) (hm : 0 < m.length) (hR : R ≤ W.heap.size) :
    ∃ v' w1, (Builtin.append_ #[22, 22] 22 #[v, .slice o m.length cap]).run Try.prog W = .ok v' w1 ∧ Row w1 R v' (l ++ m) ∧ Below R W w1 := by
  obtain ⟨i0, hi, hz0, hz1, hz2⟩ := info_parts infoI
  obtain ⟨b, off, rfl, hbl, hc⟩ := hL hm
  obtain ⟨v', w', hr, hown, hgrow, _, hat⟩ := run_append_own_at (P := Try.prog) (w := W) R 22 22 3 i0 (.int .i64 0) 1 8 Try.underlying22 hi hz0 hz1 hz2 rfl (by decide) v l.length (lsv l) hrow ⟨b, off, none⟩ m.length cap (lsv m) (by unfold lsv; simp) (fun j x hx => by
    unfold lsv at hx
    rw [List.getElem?_map] at hx
    by_cases hj : j < m.length
    · rw [List.getElem?_eq_getElem hj] at hx
      simp only [Option.map_some] at hx
      rw [plus_addr, ← Option.some.inj hx]
      have h1 := hc j hj
      dsimp only at h1
      rw [List.getD_eq_getElem?_getD, List.getElem?_eq_getElem hj] at h1
      exact h1
    · rw [List.getElem?_eq_none (by omega)] at hx
      simp at hx) (fun x hx => by
    obtain ⟨i, hi, rfl⟩ := List.mem_map.1 hx
    rfl) (by unfold maxLen; omega) (by omega) hR
  refine ⟨v', w', hr, ?_, (Below.refl _ _).grown hgrow hR (fun k hk => ?_)⟩
  · unfold Row
    rw [List.length_append]
    have e : lsv (l ++ m) = lsv l ++ lsv m := by simp [lsv]
    rw [e]
    exact hown
  · rcases hrow.2 with ⟨h0, _⟩ | ⟨g, cap', cur, h0, hR', _⟩
    · rw [h0] at hk; simp [Value.ownBlock] at hk
    · rw [h0] at hk
      have : g = k := by simpa [Value.ownBlock] using hk
      omega
def pre (L : Nat → List Int) : Nat → List Int
  | 0 => []
  | c + 1 => pre L c ++ L c
/-- The row that Grow gives. -/
theorem grow_row (n : Nat) (hn : 0 < n) (hs : n ≤ 1000000) (w : World) : Calls Try.prog 26 #[.slice none 0 0, .int .i64 (n : Int)] w fun e w' => ∃ v, e = .returned v ∧ Row w' w.heap.size v [] ∧ Below w.heap.size w w' := by
  obtain ⟨i0, hi, hz0, hz1, hz2⟩ := info_parts infoI
  refine (Try.slices_Grow_nil i0 (.int .i64 0) hi hz0 (by rw [hz1]; decide) n hn w (by rw [hz2]; omega) (by omega)).mono ?_
  rintro e w' ⟨rfl, rfl⟩
  have h1 := grownCap_ge w (0 + n) 0 3
  have h2 := grownCap_le_maxLen w (0 + n) 0 3 (by unfold maxLen; omega)
  refine ⟨_, rfl, ⟨by simp [lsv], .inr ⟨w.heap.size, _, _, rfl, Nat.le_refl _, World.alloc_heap_new w.drew _, Nat.zero_le _, h2, ?_, by simp [lsv]⟩⟩, (show Below w.heap.size w w.drew from below_dn 1 (Below.refl _ _)).alloc (Nat.le_refl _) _⟩
  simp only [Array.size_append, List.size_toArray, List.length_nil, size_zeroCells]
  have e : (Value.int IntKind.i64 0).cells.size = 1 := rfl
  rw [e]
  omega
set_option maxRecDepth 100000 in
set_option maxHeartbeats 4000000 in
theorem concat_ok (L : Nat → List Int) (hp : ∀ i, i < 2 → 0 < (L i).length ∧ (L i).length ≤ 100) (o : Option Addr) (cap : Nat) (w : World) (hL : Ls w o 2 L) :
    Calls Try.prog 12 #[.slice o 2 cap] w fun e w' => ∃ v, e = .returned v ∧ Row w' w.heap.size v (pre L 2) ∧ Below w.heap.size w w' := by
  have HL := Lib.hid hL
  have HP := Lib.hid hp
  have hlen : ∀ c, c ≤ 2 → (pre L c).length ≤ 200 := fun c hc => by
    have h0 := (hp 0 (by omega)).2
    have h1 := (hp 1 (by omega)).2
    match c, hc with
    | 0, _ => simp [pre]
    | 1, _ => simp [pre]; omega
    | 2, _ => simp [pre]; omega
  have HLen := Lib.hid hlen
  have hpos : 0 < (pre L 2).length := by
    have h0 := (hp 0 (by omega)).1
    simp [pre]; omega
  have HPos := Lib.hid hpos
  clear hL hp hlen hpos
  go_enter Try.func12, Try.ntmps12
  go_wp2_with fail
  go_loopw [3, 11] (fun s j wr => ∃ c : Nat, c ≤ 2 ∧ j = .int .i64 (c : Int) ∧ s = .int .i64 (((pre L c).length : Nat) : Int) ∧ wr = w) (fun _ j _ => 2 - (intOf j).toNat)
  case atStart => exact ⟨0, by omega, by first | trivial | rfl, by first | trivial | rfl, rfl⟩
  case round =>
    obtain ⟨c, hc, rfl, rfl, rfl⟩ := hrel
    by_cases hlt : c < 2
    · have hc1 : (c : Int) < 2 := by omega
      obtain ⟨b, off, rfl, hbl, hcl⟩ := HL.out (by omega)
      obtain ⟨oc, cc, e1, hz⟩ := hcl c hlt
      have hl1 := HLen.out c (by omega)
      have hl2 := (HP.out c hlt).2
      obtain ⟨q, hq⟩ : ∃ q, (L c).length = q := ⟨_, rfl⟩
      have e2 : (pre L (c + 1)).length = (pre L c).length + q := by show (pre L c ++ L c).length = _; rw [List.length_append, hq]
      have HE2 := Lib.hid e2
      obtain ⟨p, hpp⟩ : ∃ p, (pre L c).length = p := ⟨_, rfl⟩
      rw [hq] at e1 hl2
      rw [hpp] at hl1 ⊢
      have HPp := Lib.hid hpp
      have hw : wrap64 ((p : Int) + (q : Int)) = (p : Int) + (q : Int) := by unfold wrap64; omega
      have hng : ¬ ((p : Int) + (q : Int) < 0) := by omega
      clear hcl hz hq e2 hpp hbl
      go_wp2_with fail
      go_roundw
      case rel => exact ⟨c + 1, by omega, by go_num, by rw [HE2.out, HPp.out]; go_num, by first | rfl | trivial⟩
      case measure => simp [intOf]; omega
    · have e : c = 2 := by omega
      subst e
      have hl2 := HLen.out 2 (by omega)
      have hps := HPos.out
      obtain ⟨n, hn⟩ : ∃ n, (pre L 2).length = n := ⟨_, rfl⟩
      rw [hn] at hl2 hps ⊢
      have HG := Lib.hid (grow_row n hps (by omega) wr)
      clear hlt hn
      go_wp2_with fail
      refine HG.out.mono ?_
      rintro e W1 ⟨v1, rfl, hrow, hb1⟩
      have HRow := Lib.hid hrow
      have HB1 := Lib.hid hb1
      clear hrow hb1
      go_wp2_with fail
      go_loopw [6, 27] (fun v j wl => ∃ c : Nat, c ≤ 2 ∧ j = .int .i64 (c : Int) ∧ Row wl wr.heap.size v (pre L c) ∧ Below wr.heap.size wr wl) (fun _ j _ => 2 - (intOf j).toNat)
      case atStart => exact ⟨0, by omega, by first | trivial | rfl, HRow.out, HB1.out⟩
      case round =>
        obtain ⟨c, hc, rfl, hrw, hbe⟩ := hrel
        by_cases hlt : c < 2
        · have hc1 : (c : Int) < 2 := by omega
          obtain ⟨b, off, rfl, hbl, hcl⟩ := (HL.out.below hbe) (by omega)
          obtain ⟨oc, cc, e1, hz⟩ := hcl c hlt
          have hl1 := HLen.out c (by omega)
          obtain ⟨v2, w2, hrun, hr2, hb2⟩ := app_rowl _ _ _ _ _ hrw oc cc hz (by have := (HP.out c hlt).2; omega) (HP.out c hlt).1 hbe.size
          have HRun := Lib.hid hrun
          have HR2 := Lib.hid hr2
          have HB2 := Lib.hid (hbe.trans hb2)
          obtain ⟨q, hq⟩ : ∃ q, (L c).length = q := ⟨_, rfl⟩
          rw [hq] at e1 HRun
          clear hcl hz hrw hbe hrun hr2 hb2 hbl hq hl1
          go_wp2_with (at_builtin; refine run_law _ rfl _ _ 22 rfl _ _ _ _ rfl rfl HRun.out ?_)
          go_roundw
          case rel => exact ⟨c + 1, by omega, by go_num, HR2.out, HB2.out⟩
          case measure => simp [intOf]; omega
        · have e : c = 2 := by omega
          subst e
          have HRw := Lib.hid hrw
          have HF := Lib.hid hbe
          clear hrw hbe hlt
          go_wp2_with fail
          exact bodyPost_ret (by simp [results, Try.results12, go_sem]) rfl ⟨_, rfl, HRw.out, HF.out⟩

end Go.Proofs.Ytokjdlljhloflaa
