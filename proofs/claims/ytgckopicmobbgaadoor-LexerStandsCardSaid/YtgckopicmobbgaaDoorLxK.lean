/- Position. -/
import Derived.Test.YtgckopicmobbgaaDoorLxD
import Derived.Test.YtgckopicmobbgaaDoorShelB
import Derived.WalkKit
import Derived.WalkSpells
import Derived.WalkLawsBesides
import Derived.Handy
import Derived.Deep.QuietTactic
import Derived.BigQuiet
import Derived.Outline
import Derived.Laws.BitsAllLaws
import Derived.IntWalk
import Derived.Lib.SmallJoins
import Derived.Lib.Hide
import Derived.Deep.DeepCutAuto
import Derived.LoopTactic
import Derived.Deep.RegionWith
import Derived.Lib.ConvBytes
import Derived.OwnWalk
import Derived.Laws.MakeOwn
namespace Go.Proofs.YtgckopicmobbgaaDoor
set_option linter.unusedVariables false
set_option linter.unusedSimpArgs false
open Go.RowKit Lex

theorem count_bl (s : ByteArray) : Lib.countByte s.data.toList 10 = (bl s).count 10 := by
  unfold Lib.countByte bl
  induction s.data.toList with
  | nil => rfl
  | cons x r ih =>
    rw [List.count_cons, List.map_cons, List.count_cons, ih]
    congr 1
    have e : (x == 10) = (x.toNat == 10) := by
      rw [Bool.eq_iff_iff, beq_iff_eq, beq_iff_eq]
      constructor
      · rintro rfl; rfl
      · intro h
        exact UInt8.toNat_inj.1 h
    rw [e]
theorem data_at {s : ByteArray} {j : Nat} (h : j < s.size) : (bl s)[j]? = some (s.data[j]!).toNat := by
  rw [bl_at h, getElem!_pos s.data j h]
  rfl
theorem last_bl (s : ByteArray) : (s.size : Int) - Lib.lastIndexByte s 10 = ((lcF (bl s)).2 : Int) := by
  have hl := bl_len s
  rcases Lib.lastIdx_spec s 10 s.size with ⟨h1, h2⟩ | ⟨i, hi, h1, h2, h3⟩
  · have hn : ∀ x ∈ bl s, x ≠ 10 := by
      intro x hx e
      obtain ⟨j, hj⟩ := List.mem_iff_getElem?.1 hx
      have hjl : j < s.size := by
        rw [← hl]
        exact (List.getElem?_eq_some_iff.1 hj).1
      rw [data_at hjl] at hj
      have := h2 j hjl
      injection hj with hj
      omega
    rw [lcF_none _ hn, hl]
    unfold Lib.lastIndexByte
    rw [h1]
    omega
  · have hil : i < (bl s).length := by omega
    have e : bl s = (bl s).take i ++ 10 :: (bl s).drop (i + 1) := by
      have h4 := List.take_append_drop i (bl s)
      rw [List.drop_eq_getElem_cons hil] at h4
      have h5 := data_at hi
      rw [List.getElem?_eq_getElem hil] at h5
      injection h5 with h5
      have h6 : (bl s)[i] = 10 := by omega
      rw [h6] at h4
      exact h4.symm
    have hn : ∀ x ∈ (bl s).drop (i + 1), x ≠ 10 := by
      intro x hx e2
      obtain ⟨j, hj⟩ := List.mem_iff_getElem?.1 hx
      rw [List.getElem?_drop] at hj
      have hjl : i + 1 + j < s.size := by
        rw [← hl]
        exact (List.getElem?_eq_some_iff.1 hj).1
      rw [data_at hjl] at hj
      have := h3 (i + 1 + j) (by omega) hjl
      injection hj with hj
      omega
    have h7 := lcF_last ((bl s).take i) ((bl s).drop (i + 1)) hn
    rw [← e, List.length_drop, hl] at h7
    rw [h7]
    unfold Lib.lastIndexByte
    rw [h1]
    omega
def PosRes (a c e : Int) (w : World) (x : Ending) (w' : World) : Prop := x = .returned (.tuple #[.int .i64 a, .int .i64 c, .int .i64 e]) ∧ w = w'
theorem pos_long (s : ByteArray) (hs : 65536 < s.size) (at0 : Int) (w : World) : Calls Tryd.prog 25 #[.string s, .int .i64 at0] w (PosRes 0 0 13 w) := by
  have h : (65536 : Int) < (s.size : Int) := by omega
  clear hs
  go_enter Tryd.func25, Tryd.ntmps25
  go_wp2_with fail
  exact bodyPost_ret (v := .tuple #[.int .i64 0, .int .i64 0, .int .i64 13]) (by simp [results, Tryd.results25, go_sem]) rfl ⟨rfl, rfl⟩
theorem pos_out (s : ByteArray) (hs : s.size ≤ 65536) (at0 : Int) (h : at0 < 0 ∨ (s.size : Int) < at0) (w : World) : Calls Tryd.prog 25 #[.string s, .int .i64 at0] w (PosRes 0 0 2 w) := by
  have h0 : ¬ (65536 : Int) < (s.size : Int) := by omega
  clear hs
  rcases h with h | h
  · go_enter Tryd.func25, Tryd.ntmps25
    go_wp2_with fail
    exact bodyPost_ret (v := .tuple #[.int .i64 0, .int .i64 0, .int .i64 2]) (by simp [results, Tryd.results25, go_sem]) rfl ⟨rfl, rfl⟩
  · have h1 : ¬ at0 < 0 := by omega
    go_enter Tryd.func25, Tryd.ntmps25
    go_wp2_with fail
    exact bodyPost_ret (v := .tuple #[.int .i64 0, .int .i64 0, .int .i64 2]) (by simp [results, Tryd.results25, go_sem]) rfl ⟨rfl, rfl⟩
set_option maxRecDepth 100000 in
theorem pos_ok (s : ByteArray) (hs : s.size ≤ 65536) (k : Nat) (hk : k ≤ s.size) (w : World) : Calls Tryd.prog 25 #[.string s, .int .i64 (k : Int)] w (PosRes ((lcF ((bl s).take k)).1 : Int) ((lcF ((bl s).take k)).2 : Int) 0 w) := by
  have h0 : ¬ (65536 : Int) < (s.size : Int) := by omega
  have h1 : ¬ (k : Int) < 0 := by omega
  have h2 : ¬ (s.size : Int) < (k : Int) := by omega
  have h3 : (k : Int) ≤ (s.size : Int) := by omega
  have hbl : bl (s.extract 0 k) = (bl s).take k := by rw [bl_extract, List.drop_zero, Nat.sub_zero]
  have hsz : (s.extract 0 k).size = k := by rw [ByteArray.size_extract]; omega
  have HC := Lib.hid (fun w => Tryd.strings_Count_one (s.extract 0 k) 10 w)
  have HLi := Lib.hid (fun w => Tryd.strings_LastIndexByte (s.extract 0 k) 10 (by omega) w)
  have hc := count_bl (s.extract 0 k)
  have hla := last_bl (s.extract 0 k)
  rw [hbl] at hc hla
  rw [hsz] at hla
  rw [hc] at HC
  have hf := lcF_fst ((bl s).take k)
  have hcl : ((bl s).take k).count 10 ≤ k := Nat.le_trans List.count_le_length (by rw [List.length_take]; omega)
  have hbd := lcF_bound ((bl s).take k)
  have hlk : ((bl s).take k).length ≤ k := by rw [List.length_take]; omega
  rw [hf]
  obtain ⟨n, hn⟩ : ∃ n, ((bl s).take k).count 10 = n := ⟨_, rfl⟩
  obtain ⟨c, hcc⟩ : ∃ c, (lcF ((bl s).take k)).2 = c := ⟨_, rfl⟩
  obtain ⟨q, hq⟩ : ∃ q, Lib.lastIndexByte (s.extract 0 k) 10 = q := ⟨_, rfl⟩
  rw [hn] at HC hcl ⊢
  rw [hcc] at hla hbd ⊢
  rw [hq] at HLi hla
  have hql : q = (k : Int) - (c : Int) := by omega
  subst hql
  have hkc : (c : Int) ≤ (k : Int) + 1 := by omega
  have hn1 : (n : Int) ≤ 65536 := by omega
  have hk1 : (k : Int) ≤ 65536 := by omega
  have HE := Lib.hid (show (k : Int) - ((k : Int) - (c : Int)) = (c : Int) by omega)
  have HE2 := Lib.hid (show ((1 + n : Nat) : Int) = 1 + (n : Int) by omega)
  clear hbl hsz hc hla hf hcl hbd hlk hn hcc hq hs hk
  go_enter Tryd.func25, Tryd.ntmps25
  go_wp2_with fail
  refine (HC.out _).mono ?_
  rintro e w' ⟨rfl, rfl⟩
  go_wp2_with fail
  refine (HLi.out _).mono ?_
  rintro e w' ⟨rfl, rfl⟩
  go_wp2_with fail
  exact bodyPost_ret (v := .tuple #[.int .i64 ((1 + n : Nat) : Int), .int .i64 (c : Int), .int .i64 0]) (by simp [results, Tryd.results25, go_sem] <;> omega) rfl ⟨rfl, rfl⟩

end Go.Proofs.YtgckopicmobbgaaDoor
