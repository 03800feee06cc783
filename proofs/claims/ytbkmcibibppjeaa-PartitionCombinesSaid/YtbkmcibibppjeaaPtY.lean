/- The specification: SameInts, SameLists, Class; words for slices of slices. -/
import Derived.Test.YtbkmcibibppjeaaPtX
import Derived.WalkKit
import Derived.WalkSpells
import Derived.WalkLawsBesides
import Derived.Handy
import Derived.Deep.QuietTactic
import Derived.BigQuiet
import Derived.Outline
import Derived.Laws.BitsAllLaws
import Derived.IntWalk
import Derived.Lib.SmallJoins
import Derived.Lib.Hide
import Derived.Deep.DeepCutAuto
import Derived.LoopTactic
import Derived.Deep.RegionWith
import Derived.Maps.AppendAt
namespace Go.Proofs.Ytbkmcibibppjeaa
set_option linter.unusedVariables false
set_option linter.unusedSimpArgs false
open Go.RowKit Part

set_option maxHeartbeats 1000000 in
theorem sameints_ok (n : Nat) (hn : n ≤ 1000000) (f : Nat → Int) (o p : Option Addr) (cap cap' : Nat) (w : World) (hL : Lz w o n f) (hL' : Lz w p n f) : Calls Try.prog 24 #[.slice o n cap, .slice p n cap'] w fun e w' => e = .returned (.bool true) ∧ ∃ d, w' = w.drewN d := by
  have HL := Lib.hid hL
  have HL' := Lib.hid hL'
  clear hL hL'
  go_enter Try.func24, Try.ntmps24
  go_wp2_with fail
  go_loopw [5] (fun j wr => ∃ i : Nat, i ≤ n ∧ j = .int .i64 (i : Int) ∧ ∃ d, wr = w.drewN d) (fun j _ => n - (intOf j).toNat)
  case atStart => exact ⟨0, by omega, rfl, 0, rfl⟩
  case round =>
    obtain ⟨i, hi, rfl, d, rfl⟩ := hrel
    by_cases hlt : i < n
    · obtain ⟨bl, ofs, rfl, hbl, hcl⟩ := HL.out (by omega)
      obtain ⟨bg, ofg, rfl, hbg, hcg⟩ := HL'.out (by omega)
      have c1 := hcl i hlt
      have c2 := hcg i hlt
      obtain ⟨x, hx⟩ : ∃ x, f i = x := ⟨_, rfl⟩
      rw [hx] at c1 c2
      clear hcl hcg hx
      have hi1 : (i : Int) < (n : Int) := by omega
      go_wp2_with fail
      go_quiet (fail)
      go_wp2_with fail
      go_roundw
      case rel => exact ⟨i + 1, by omega, by go_num, _, rfl⟩
      case measure => simp [intOf]; omega
    · have e : i = n := by omega
      subst e
      go_wp2_with fail
      go_ret
      exact ⟨rfl, _, rfl⟩

/-- A slice of k lists of integers. -/
def Ls (w : World) (o : Option Addr) (k : Nat) (L : Nat → List Int) : Prop := 0 < k → ∃ b off, o = some ⟨b, off, none⟩ ∧ b < w.heap.size ∧ ∀ c, c < k → ∃ oc capc, w.cell? ⟨b, off + c, none⟩ = some (.slice oc (L c).length capc) ∧ Lz w oc (L c).length (fun j => (L c).getD j 0)
theorem Ls.below {w W : World} {o : Option Addr} {k : Nat} {L : Nat → List Int} (h : Ls w o k L) (hb : Below w.heap.size w W) : Ls W o k L := fun hn => by
  obtain ⟨b, off, e, hl, hc⟩ := h hn
  refine ⟨b, off, e, Nat.lt_of_lt_of_le hl hb.size, fun c hk => ?_⟩
  obtain ⟨oc, capc, h1, h2⟩ := hc c hk
  exact ⟨oc, capc, (hb.cell (p := ⟨b, off + c, none⟩) hl).trans h1, h2.below hb⟩
theorem Lz.drewN {w : World} {o : Option Addr} {n : Nat} {f : Nat → Int} (h : Lz w o n f) (d : Nat) : Lz (w.drewN d) o n f := h
theorem Ls.nil {w : World} {o : Option Addr} {L : Nat → List Int} : Ls w o 0 L := fun h => absurd h (Nat.not_lt_zero _)
set_option maxHeartbeats 1000000 in
theorem samelists_ok (k : Nat) (hk : k ≤ 65536) (L : Nat → List Int) (hl : ∀ c, c < k → (L c).length ≤ 1000000) (o p : Option Addr) (cap cap' : Nat) (w : World) (hL : Ls w o k L) (hL' : Ls w p k L) : Calls Try.prog 19 #[.slice o k cap, .slice p k cap'] w fun e w' => e = .returned (.bool true) ∧ ∃ d, w' = w.drewN d := by
  have HL := Lib.hid hL
  have HL' := Lib.hid hL'
  have HLe := Lib.hid hl
  clear hL hL' hl
  go_enter Try.func19, Try.ntmps19
  go_wp2_with fail
  go_loopw [5] (fun j wr => ∃ i : Nat, i ≤ k ∧ j = .int .i64 (i : Int) ∧ ∃ d, wr = w.drewN d) (fun j _ => k - (intOf j).toNat)
  case atStart => exact ⟨0, by omega, rfl, 0, rfl⟩
  case round =>
    obtain ⟨i, hi, rfl, hd⟩ := hrel
    have HD := Lib.hid hd
    by_cases hlt : i < k
    · obtain ⟨bl, ofs, rfl, hbl, hcl⟩ := HL.out (by omega)
      obtain ⟨bg, ofg, rfl, hbg, hcg⟩ := HL'.out (by omega)
      obtain ⟨oc, cc, c1', l1'⟩ := hcl i hlt
      obtain ⟨od, cd, c2', l2'⟩ := hcg i hlt
      have c1 : wr.cell? ⟨bl, ofs + i, none⟩ = some (.slice oc (L i).length cc) := by obtain ⟨d, rfl⟩ := hd; exact c1'
      have c2 : wr.cell? ⟨bg, ofg + i, none⟩ = some (.slice od (L i).length cd) := by obtain ⟨d, rfl⟩ := hd; exact c2'
      have l1 : Lz wr oc (L i).length (fun j => (L i).getD j 0) := by obtain ⟨d, rfl⟩ := hd; exact l1'.drewN d
      have l2 : Lz wr od (L i).length (fun j => (L i).getD j 0) := by obtain ⟨d, rfl⟩ := hd; exact l2'.drewN d
      have HS := Lib.hid (fun d => Calls.quiet_of (sameints_ok (L i).length (HLe.out i hlt) (fun j => (L i).getD j 0) oc od cc cd (wr.drewN d) (l1.drewN d) (l2.drewN d)))
      obtain ⟨m, hm⟩ : ∃ m, (L i).length = m := ⟨_, rfl⟩
      rw [hm] at c1 c2 HS
      clear hcl hcg l1 l2 l1' l2' c1' c2' hd hm
      have hi1 : (i : Int) < (k : Int) := by omega
      go_wp2_with fail
      go_quiet ((go_at_call 24; exact HS.out _))
      go_wp2_with fail
      go_roundw
      case rel => exact ⟨i + 1, by omega, by go_num, by obtain ⟨d, hd⟩ := HD.out; subst hd; exact ⟨_, World.drewN_drewN _ _ _⟩⟩
      case measure => simp [intOf]; omega
    · have e : i = k := by omega
      subst e
      clear hd
      go_wp2_with fail
      go_ret
      exact ⟨rfl, HD.out⟩

theorem app_int2 {ops : Array Oper} {rest : List Oper} {o : Oper} {a : Act} {Q : Exit → Act → World → Prop} (w : World) (hgd : o.guard = none) (s x : Operand)
    (ho : o.op = .call { callee := .builtin .append, args := #[s, x], argTypes := #[22, 22] })
    (R : Nat) (v : Value) (l : List Int) (hs : a.eval s = v) (hrow : Row w R v l) (b : Nat) (z : Int) (hx : a.eval x = .slice (some ⟨b, 0, none⟩) 1 1) (hc : w.cell? ⟨b, 0, none⟩ = some (.int .i64 z)) (hl : l.length ≤ 1000000) (hR : R ≤ w.heap.size)
    (h : ∀ (g cap : Nat) w', Row w' R (.slice (some ⟨g, 0, none⟩) (l.length + 1) cap) (l ++ [z]) → w.grownBy w' v.ownBlock → (some g = v.ownBlock ∨ g = w.heap.size) → wpList Try.prog ops Q rest (a.put o.dst (.slice (some ⟨g, 0, none⟩) (l.length + 1) cap)) w') :
    wpList Try.prog ops Q (o :: rest) a w := by
  obtain ⟨i0, hi, hz0, hz1, hz2⟩ := info_parts infoI
  refine wpList_append_own_at _ hgd s x 22 ho R 3 i0 (.int .i64 0) 1 8 Try.underlying22 hi hz0 hz1 hz2 rfl (by decide) v l.length (lsv l) hs hrow ⟨b, 0, none⟩ 1 1 [.int .i64 z] hx rfl ?_ ?_ ?_ ?_ hR ?_
  · intro j u hu
    match j, hu with
    | 0, hu =>
      simp at hu
      subst hu
      exact hc
    | j + 1, hu => simp at hu
  · intro u hu; simp at hu; rw [hu]; rfl
  · unfold maxLen; omega
  · omega
  · intro v' w' hown hgrow _ hat
    have hr : Row w' R v' (l ++ [z]) := by
      have e : lsv l ++ [.int .i64 z] = lsv (l ++ [z]) := by simp [lsv]
      unfold Row
      rw [List.length_append, List.length_singleton, ← e]
      exact hown
    rcases hr.cases with ⟨_, h1⟩ | ⟨g, cap, h1, h2, _, _⟩
    · simp at h1
    · rw [List.length_append, List.length_singleton] at h1
      subst h1
      exact h g cap w' hr hgrow (hat.imp id (fun e => by simpa [Value.ownBlock] using e))
theorem infoL : (Try.prog.info? 22).map (fun i => (i.zero, i.size, i.bytes)) = some (some (.slice none 0 0), 1, 24) := by kernel_rfl
/-- The places below i with label c. -/
def memb (a : Nat → Nat) (i c : Nat) : List Int := ((List.range i).filter fun j => a j == c).map fun (j : Nat) => (j : Int)
theorem memb_zero (a : Nat → Nat) (c : Nat) : memb a 0 c = [] := rfl
theorem memb_yes {a : Nat → Nat} {i c : Nat} (h : a i = c) : memb a (i + 1) c = memb a i c ++ [(i : Int)] := by
  unfold memb
  rw [List.range_succ, List.filter_append, List.map_append]
  simp [h]
theorem memb_no {a : Nat → Nat} {i c : Nat} (h : a i ≠ c) : memb a (i + 1) c = memb a i c := by
  unfold memb
  rw [List.range_succ, List.filter_append, List.map_append]
  simp [h]
theorem memb_len (a : Nat → Nat) (i c : Nat) : (memb a i c).length ≤ i := by
  unfold memb
  rw [List.length_map]
  exact Nat.le_trans (List.length_filter_le _ _) (by simp)

set_option maxHeartbeats 1000000 in
theorem class_ok (n : Nat) (f : Nat → Int) (hf : Good n f) (c : Nat) (o : Option Addr) (cap : Nat) (w : World) (hL : Lz w o n f) : Calls Try.prog 43 #[.slice o n cap, .int .i64 (c : Int)] w fun e w' => ∃ v, e = .returned v ∧ Row w' w.heap.size v (memb (nat f) n c) ∧ Below w.heap.size w w' := by
  have hn := hf.1
  obtain ⟨a, ha⟩ : ∃ a, nat f = a := ⟨_, rfl⟩
  rw [ha]
  have HEa : Hid (∀ j, j < n → f j = ((a j : Nat) : Int)) := Lib.hid (fun j hj => by have h1 := hf.2.1 j hj; rw [← ha]; show f j = ((f j).toNat : Int); omega)
  have HL := Lib.hid hL
  clear hL hf ha
  go_enter Try.func43, Try.ntmps43
  go_wp2_with fail
  go_loopw [5, 6] (fun v j wr => ∃ i : Nat, i ≤ n ∧ j = .int .i64 (i : Int) ∧ Row wr w.heap.size v (memb a i c) ∧ Below w.heap.size w wr) (fun _ j _ => n - (intOf j).toNat)
  case atStart => exact ⟨0, by omega, rfl, Row.nil _ _, Below.refl _ _⟩
  case round =>
    obtain ⟨i, hi, rfl, hR, hB⟩ := hrel
    have HR := Lib.hid hR
    have HB := Lib.hid hB
    clear hR hB
    by_cases hlt : i < n
    · obtain ⟨bl, ofs, rfl, hbl, hcl⟩ := HL.out (by omega)
      have c1 := (HB.out.cell (p := ⟨bl, ofs + i, none⟩) hbl).trans (hcl i hlt)
      rw [HEa.out i hlt] at c1
      obtain ⟨x, hx⟩ : ∃ x, a i = x := ⟨_, rfl⟩
      rw [hx] at c1
      have HX := Lib.hid hx
      have hml := memb_len a i c
      obtain ⟨ov, cv, rfl, hov⟩ := HR.out.shape' rfl
      clear hcl hx hov
      have hi1 : (i : Int) < (n : Int) := by omega
      by_cases hxc : x = c
      · subst hxc
        obtain ⟨m, hm⟩ : ∃ m, (memb a i x).length = m := ⟨_, rfl⟩
        have HM := Lib.hid hm
        rw [hm] at hml ⊢
        rw [hm] at HR
        clear hm
        go_wp2_with (at_builtin; refine app_int _ rfl _ _ rfl w.heap.size _ _ rfl (HR.out.alloc _) wr.heap.size (i : Int) rfl (World.cell?_alloc_mark _ #[_] 3 (0, 0) 0) (by rw [HM.out]; omega) (by have := HB.out.size; simp; omega) ?_; intro gg cv2 w2 hr2 hbb2 hgg; rw [HM.out] at hr2 ⊢; have HR2 := Lib.hid hr2; have HBB := Lib.hid hbb2; clear hr2 hbb2)
        go_roundw
        case rel => exact ⟨i + 1, by omega, by go_num, memb_yes HX.out ▸ HR2.out, (HB.out.alloc HB.out.size _).trans HBB.out⟩
        case measure => simp [intOf]; omega
      · have hne : (x == c) = false := by rw [beq_eq_false_iff_ne]; exact hxc
        have hne2 : ((x : Int) == (c : Int)) = false := by rw [beq_eq_false_iff_ne]; omega
        have HNo := Lib.hid (show a i ≠ c by rw [HX.out]; exact hxc)
        clear hxc
        go_wp2_with fail
        go_roundw
        case rel => exact ⟨i + 1, by omega, by go_num, memb_no HNo.out ▸ HR.out, HB.out⟩
        case measure => simp [intOf]; omega
    · have e : i = n := by omega
      subst e
      go_wp2_with fail
      go_ret
      exact ⟨_, rfl, HR.out, HB.out⟩
end Go.Proofs.Ytbkmcibibppjeaa
