/- For the law of the classes: slices.IsSorted, slices.Contains of bools; classes in plain numbers. -/
import Derived.Test.YtbkmcibibppjeaaQaE
import Derived.WalkKit
import Derived.WalkSpells
import Derived.WalkLawsBesides
import Derived.Handy
import Derived.Deep.QuietTactic
import Derived.BigQuiet
import Derived.Outline
import Derived.Laws.BitsAllLaws
import Derived.IntWalk
import Derived.Lib.SmallJoins
import Derived.Lib.Hide
import Derived.Deep.DeepCutAuto
import Derived.LoopTactic
import Derived.Deep.RegionWith
namespace Go.Proofs.Ytbkmcibibppjeaa
set_option linter.unusedVariables false
set_option linter.unusedSimpArgs false
open Go.RowKit Part

theorem nan_any (x : Int) (w : World) : Calls Try.prog 60 #[.int .i64 x] w fun e w' => e = .returned (.bool false) ∧ w = w' := by
  go_enter Try.func60, Try.ntmps60
  go_wp2_with fail
  go_ret
  exact ⟨by simp, rfl⟩
theorem less_no (x y : Int) (h : y ≤ x) (w : World) : Calls Try.prog 56 #[.int .i64 x, .int .i64 y] w fun e w' => e = .returned (.bool false) ∧ w = w' := by
  have H1 := Lib.hid (fun w => nan_any x w)
  have H2 := Lib.hid (fun w => nan_any y w)
  go_enter Try.func56, Try.ntmps56
  go_wp2_with fail
  refine (H1.out _).mono ?_
  rintro e w' ⟨rfl, rfl⟩
  go_wp2_with fail
  go_ret
  exact ⟨by simp <;> omega, rfl⟩
set_option maxHeartbeats 1000000 in
theorem issorted_ok (n : Nat) (hn : n ≤ 65536) (f : Nat → Int) (hf : ∀ i, i + 1 < n → f i ≤ f (i + 1)) (o : Option Addr) (cap : Nat) (w : World) (hL : Lz w o n f) : Calls Try.prog 36 #[.slice o n cap] w fun e w' => e = .returned (.bool true) ∧ ∃ d, w' = w.drewN d := by
  have HL := Lib.hid hL
  have HF := Lib.hid hf
  clear hL hf
  go_enter Try.func36, Try.ntmps36
  go_wp2_with fail
  go_loopw [3] (fun j wr => ∃ i : Int, -1 ≤ i ∧ i < n ∧ j = .int .i64 i ∧ ∃ d, wr = w.drewN d) (fun j _ => (intOf j + 1).toNat)
  case atStart => exact ⟨_, by omega, by omega, rfl, 0, rfl⟩
  case round =>
    obtain ⟨i, h1, h2, rfl, hd⟩ := hrel
    by_cases h0 : 0 < i
    · obtain ⟨k, rfl⟩ := Int.eq_ofNat_of_zero_le (show 0 ≤ i by omega)
      obtain ⟨k', rfl⟩ : ∃ k', k = k' + 1 := ⟨k - 1, by omega⟩
      obtain ⟨bl, ofs, rfl, hbl, hcl⟩ := HL.out (by omega)
      have c1 : wr.cell? ⟨bl, ofs + (k' + 1), none⟩ = some (.int .i64 (f (k' + 1))) := by obtain ⟨d, rfl⟩ := hd; exact hcl (k' + 1) (by omega)
      have c2 : wr.cell? ⟨bl, ofs + k', none⟩ = some (.int .i64 (f k')) := by obtain ⟨d, rfl⟩ := hd; exact hcl k' (by omega)
      have hle := HF.out k' (by omega)
      obtain ⟨x, hx⟩ : ∃ x, f (k' + 1) = x := ⟨_, rfl⟩
      obtain ⟨y, hy⟩ : ∃ y, f k' = y := ⟨_, rfl⟩
      rw [hx] at c1 hle
      rw [hy] at c2 hle
      obtain ⟨k, hk⟩ : ∃ k, k = k' + 1 := ⟨_, rfl⟩
      rw [← hk] at c1 h0 h1 h2 ⊢
      have hw : IntKind.i64.wrap ((k : Int) - 1) = (k' : Int) := by rw [IntWalk.i64_in _ (by omega)]; omega
      have hlt1 : (k : Int) < (n : Int) := h2
      have hlt2 : (k' : Int) < (n : Int) := by omega
      have HD := Lib.hid hd
      have HK := Lib.hid hk
      have HS := Lib.hid (fun d => Calls.quiet_of_same ((less_no x y hle (wr.drewN d)).mono fun _ _ ⟨a, b⟩ => ⟨a, b.symm⟩))
      clear hx hy hcl hd hk hle
      go_wp2_with fail
      go_quiet ((go_at_call 56; exact HS.out _))
      clear hw
      go_wp2_with fail
      go_roundw
      case rel => exact ⟨_, by omega, by omega, rfl, by obtain ⟨d, hd⟩ := HD.out; subst hd; exact ⟨_, World.drewN_drewN _ _ _⟩⟩
      case measure => simp [intOf] <;> omega
    · clear h2
      have h0' : i ≤ 0 := by omega
      have HD := Lib.hid hd
      clear hd h0
      go_wp2_with fail
      go_ret
      exact ⟨rfl, HD.out⟩

theorem infoB : (Try.prog.info? 4).map (fun i => (i.zero, i.size, i.bytes)) = some (some (.bool false), 1, 1) := by kernel_rfl
theorem bcells_made (k : Nat) : madeCells #[Value.bool false] k = vcells k (fun _ => .bool false) := by
  apply Array.ext_getElem?
  intro j
  by_cases hj : j < k
  · rw [vcells_get _ hj]
    have e : j % 1 = 0 := by omega
    simp only [madeCells, Array.getElem?_map, Array.getElem?_range, hj, if_true, Option.map_some, List.size_toArray, List.length_singleton, e]
    rfl
  · rw [Array.getElem?_eq_none (by rw [size_madeCells]; omega), Array.getElem?_eq_none (by rw [vcells_size]; omega)]
theorem run_bools (n : Nat) (hn : n ≤ 65536) (w : World) : (Instr.makeSlice 57 (.int .i64 (n : Int)) (.int .i64 (n : Int))).run Try.prog w = .ok (.slice (some ⟨w.heap.size, 0, none⟩) n n) (w.alloc (.cells (vcells n (fun _ => .bool false)) 4)) := by
  obtain ⟨i0, hi, hz0, hz1, hz2⟩ := info_parts infoB
  have hr := run_make (P := Try.prog) w 57 4 i0 (.bool false) Try.underlying57 hi hz0 .i64 .i64 n n (by omega) (by omega) (by rw [hz2]; omega) (by omega)
  rw [hr, hz1]
  simp only [Int.toNat_natCast, Nat.mul_one]
  rw [← bcells_made]
  rfl
/-- n bools that are true. -/
def Lt (w : World) (o : Option Addr) (n : Nat) : Prop := 0 < n → ∃ b off, o = some ⟨b, off, none⟩ ∧ ∀ i, i < n → w.cell? ⟨b, off + i, none⟩ = some (.bool true)
theorem bindex_no (n : Nat) (hn : n ≤ 65536) (o : Option Addr) (cap : Nat) (w : World) (hL : Lt w o n) : Calls Try.prog 57 #[.slice o n cap, .bool false] w fun e w' => e = .returned (.int .i64 (-1)) ∧ w = w' := by
  have HL := Lib.hid hL
  clear hL
  go_enter Try.func57, Try.ntmps57
  go_wp2_with fail
  go_loop [8] (fun j => ∃ i : Nat, i ≤ n ∧ j = .int .i64 (i : Int)) (fun j => n - (intOf j).toNat)
  case atStart => exact ⟨0, by omega, rfl⟩
  case round =>
    obtain ⟨i, hi, rfl⟩ := hrel
    by_cases hlt : i < n
    · obtain ⟨bl, ofs, rfl, hcl⟩ := HL.out (by omega)
      have c1 := hcl i hlt
      have hi1 : (i : Int) < (n : Int) := by omega
      clear hcl
      go_wp2_with fail
      go_round
      case rel => exact ⟨i + 1, by omega, by go_num⟩
      case measure => simp [intOf]; omega
    · have e : i = n := by omega
      subst e
      go_wp2_with fail
      go_ret
      exact ⟨rfl, rfl⟩
theorem bcontains_no (n : Nat) (hn : n ≤ 65536) (o : Option Addr) (cap : Nat) (w : World) (hL : Lt w o n) : Calls Try.prog 37 #[.slice o n cap, .bool false] w fun e w' => e = .returned (.bool false) ∧ w = w' := by
  have H := Lib.hid (bindex_no n hn o cap w hL)
  clear hL
  go_enter Try.func37, Try.ntmps37
  go_wp2_with fail
  refine H.out.mono ?_
  rintro e w' ⟨rfl, rfl⟩
  go_wp2_with fail
  go_ret
  exact ⟨rfl, rfl⟩

/-! ### Classes in plain numbers -/
theorem memb_mem {a : Nat → Nat} {n c : Nat} {x : Int} : x ∈ memb a n c ↔ ∃ j, j < n ∧ a j = c ∧ x = (j : Int) := by
  unfold memb
  rw [List.mem_map]
  constructor
  · rintro ⟨j, hj, rfl⟩
    rw [List.mem_filter, List.mem_range] at hj
    exact ⟨j, hj.1, by simpa using hj.2, rfl⟩
  · rintro ⟨j, h1, h2, rfl⟩
    exact ⟨j, by rw [List.mem_filter, List.mem_range]; exact ⟨h1, by simpa using h2⟩, rfl⟩
theorem memb_asc (a : Nat → Nat) (n c : Nat) : (memb a n c).Pairwise (· < ·) := by
  unfold memb
  rw [List.pairwise_map]
  refine List.Pairwise.imp ?_ (List.Pairwise.filter _ List.pairwise_lt_range)
  intro x y h
  omega
theorem memb_lt {a : Nat → Nat} {n c : Nat} {i j : Nat} (hi : i < j) (hj : j < (memb a n c).length) : (memb a n c)[i] < (memb a n c)[j] :=
  List.pairwise_iff_getElem.1 (memb_asc a n c) i j (by omega) hj hi
theorem memb_pos {a : Nat → Nat} {n c : Nat} (h : c < cnt a n) : 0 < (memb a n c).length := by
  obtain ⟨k, h1, h2⟩ := cnt_occ a n c h
  exact List.length_pos_of_mem (memb_mem.2 ⟨k, h1, h2, rfl⟩)
theorem memb_first {a : Nat → Nat} {n c : Nat} (hw : Wf n a) (h : c + 1 < cnt a n) : (memb a n c)[0]'(memb_pos (by omega)) < (memb a n (c + 1))[0]'(memb_pos h) := by
  obtain ⟨j, hj, ha, e⟩ := memb_mem.1 (List.getElem_mem (memb_pos h))
  have h1 := hw j hj
  obtain ⟨k, hk, hk2⟩ := cnt_occ a j c (by omega)
  rw [e]
  obtain ⟨t, ht, e2⟩ := List.mem_iff_getElem.1 (memb_mem.2 ⟨k, by omega, hk2, rfl⟩ : ((k : Nat) : Int) ∈ memb a n c)
  by_cases h0 : t = 0
  · subst h0
    rw [e2]
    omega
  · have := memb_lt (a := a) (n := n) (c := c) (i := 0) (j := t) (by omega) ht
    rw [e2] at this
    omega
/-- Which places have been seen, behind c classes and t places of the next one. -/
def seen (a : Nat → Nat) (n c t : Nat) : Nat → Value := fun i => .bool (decide (a i < c) || decide (((i : Nat) : Int) ∈ (memb a n c).take t))
theorem seen_zero (a : Nat → Nat) (n i : Nat) : seen a n 0 0 i = .bool false := by simp [seen]
theorem seen_next {a : Nat → Nat} {n c : Nat} {i : Nat} (hi : i < n) : seen a n c (memb a n c).length i = seen a n (c + 1) 0 i := by
  unfold seen
  rw [List.take_length, List.take_zero]
  congr 1
  rw [Bool.eq_iff_iff]
  simp only [Bool.or_eq_true, decide_eq_true_iff, memb_mem, List.not_mem_nil, or_false]
  constructor
  · rintro (h | ⟨j, _, h2, h3⟩)
    · omega
    · have : i = j := by omega
      subst this
      omega
  · intro h
    by_cases h2 : a i < c
    · exact .inl h2
    · exact .inr ⟨i, hi, by omega, rfl⟩
theorem seen_step {a : Nat → Nat} {n c t i : Nat} (ht : t < (memb a n c).length) (he : (memb a n c)[t] = (i : Int)) : updv (seen a n c t) i (.bool true) = seen a n c (t + 1) := by
  funext j
  unfold updv seen
  rw [List.take_succ_eq_append_getElem ht]
  by_cases e : j = i
  · subst e
    rw [if_pos rfl]
    simp [he]
  · rw [if_neg e]
    congr 2
    rw [Bool.eq_iff_iff]
    simp only [decide_eq_true_iff, List.mem_append, List.mem_singleton, he]
    constructor
    · exact .inl
    · rintro (h | h)
      · exact h
      · omega
theorem seen_not {a : Nat → Nat} {n c t i : Nat} (ht : t < (memb a n c).length) (he : (memb a n c)[t] = (i : Int)) : i < n ∧ a i = c ∧ seen a n c t i = .bool false := by
  obtain ⟨j, h1, h2, h3⟩ := memb_mem.1 (he ▸ List.getElem_mem ht)
  have hij : i = j := by omega
  subst hij
  refine ⟨h1, h2, ?_⟩
  unfold seen
  congr 1
  rw [Bool.or_eq_false_iff]
  refine ⟨decide_eq_false (by omega), decide_eq_false fun hm => ?_⟩
  obtain ⟨s, hs, e⟩ := List.mem_iff_getElem.1 hm
  rw [List.length_take] at hs
  rw [List.getElem_take] at e
  have := memb_lt (a := a) (n := n) (c := c) (i := s) (j := t) (by omega) ht
  rw [e, he] at this
  omega
theorem seen_all {a : Nat → Nat} {n : Nat} (hw : Wf n a) {i : Nat} (hi : i < n) : seen a n (cnt a n) 0 i = .bool true := by
  have := lt_cnt hw hi (Nat.le_refl n)
  simp [seen, this]
end Go.Proofs.Ytbkmcibibppjeaa
