/- The specification of procset: Text, Format; the law ProcsetReads. -/
import Derived.Test.YtienbebbgioccaaDoorPsP
import Derived.WalkKit
import Derived.WalkSpells
import Derived.WalkLawsBesides
import Derived.Handy
import Derived.Deep.QuietTactic
import Derived.BigQuiet
import Derived.Outline
import Derived.Laws.BitsAllLaws
import Derived.IntWalk
import Derived.Lib.SmallJoins
import Derived.Lib.Hide
import Derived.Deep.DeepCutAuto
import Derived.LoopTactic
import Derived.Deep.RegionWith
namespace Go.Proofs.YtienbebbgioccaaDoor
set_option linter.unusedVariables false
set_option linter.unusedSimpArgs false
open Go.RowKit

/-- The text of the first elements. -/
def jot (S i : Nat) : ByteArray := jo ((mem S).take i)
theorem jot_zero : ∀ S : Fin 32, jot S.val 0 = { data := #[] } := by decide +kernel
theorem jot_first : ∀ S : Fin 32, ∀ i : Fin 1, (h : i.val < (mem S.val).length) → jot S.val (i.val + 1) = jot S.val i.val ++ dg ((mem S.val)[i.val]) := by decide +kernel
theorem jot_next : ∀ S : Fin 32, ∀ i : Fin 5, (h : i.val < (mem S.val).length) → 0 < i.val → jot S.val (i.val + 1) = (jot S.val i.val ++ { data := #[44] }) ++ dg ((mem S.val)[i.val]) := by decide +kernel
theorem jot_size : ∀ S : Fin 32, ∀ i : Fin 6, (jot S.val i.val).size ≤ 20 := by decide +kernel
theorem jot_all : ∀ S : Fin 32, jot S.val (mem S.val).length = jo (mem S.val) := by decide +kernel
theorem utf_dg : ∀ p : Fin 5, Utf8.encode (48 + p.val) = dg p.val := by decide +kernel
theorem mem_get (S i : Nat) (h : i < (mem S).length) : (mem S)[i] < 5 := mem_lt S _ (List.getElem_mem h)

set_option maxRecDepth 100000 in
set_option maxHeartbeats 8000000 in
theorem rtext_ok (S : Nat) (hs : S < 32) (w : World) : Calls Tryd.prog 50 #[.int .i64 (S : Int)] w fun e w' => e = .returned (.string (txs S)) ∧ Below w.heap.size w w' := by
  have hm : (mem S).length ≤ 5 := memb_le S 5
  have HL := Lib.hid (fun W => rlist_ok S hs W)
  have Hz := Lib.hid (jot_zero ⟨S, hs⟩)
  have HF : Hid (∀ i, i < 1 → (h : i < (mem S).length) → jot S (i + 1) = jot S i ++ dg ((mem S)[i])) := Lib.hid (fun i h1 h => jot_first ⟨S, hs⟩ ⟨i, h1⟩ h)
  have HX : Hid (∀ i, 0 < i → (h : i < (mem S).length) → jot S (i + 1) = (jot S i ++ { data := #[44] }) ++ dg ((mem S)[i])) := Lib.hid (fun i h1 h => jot_next ⟨S, hs⟩ ⟨i, by omega⟩ h h1)
  have HS : Hid (∀ i, i < 6 → (jot S i).size ≤ 20) := Lib.hid (fun i h => jot_size ⟨S, hs⟩ ⟨i, h⟩)
  have HA : Hid (jot S (mem S).length = jo (mem S)) := Lib.hid (jot_all ⟨S, hs⟩)
  have HG : Hid (∀ i, (h : i < (mem S).length) → (mem S)[i] < 5) := Lib.hid (fun i h => mem_get S i h)
  have HT : Hid (txs S = ({ data := #[123] } ++ jo (mem S)) ++ { data := #[125] }) := Lib.hid rfl
  obtain ⟨l, hl⟩ : ∃ l, mem S = l := ⟨_, rfl⟩
  rw [hl] at hm HL HF HX HA HG HT
  obtain ⟨J, hJ⟩ : ∃ J, jot S = J := ⟨_, rfl⟩
  rw [hJ] at HF HX HS HA
  have HJ : Hid (J 0 = { data := #[] }) := Lib.hid (by rw [← hJ]; exact Hz.out)
  obtain ⟨tx, htx⟩ : ∃ tx, txs S = tx := ⟨_, rfl⟩
  rw [htx] at HT ⊢
  clear hl hJ hs htx Hz
  go_enter Tryd.func50, Tryd.ntmps50
  go_wp2_with fail
  refine (HL.out _).mono ?_
  rintro e W ⟨v, rfl, hB, hO⟩
  have HB := Lib.hid hB
  have HLi := Lib.hid (LiesI.of hO)
  clear hB hO HL
  have h0 : l = [] ∨ ∃ g cap, v = .slice (some ⟨g, 0, none⟩) l.length cap ∧ ∀ i, (h : i < l.length) → W.cell? ⟨g, i, none⟩ = some (.int .i64 (l[i] : Int)) := by
    rcases HLi.out.form with ⟨_, h⟩ | ⟨g, cap, h1, h2, h3, h4⟩
    · exact .inl (List.length_eq_zero_iff.1 h)
    · exact .inr ⟨g, cap, h1, fun i h => h4 W i (Below.refl _ _) h⟩
  have hv : ∃ o cap, v = .slice o l.length cap ∧ ∀ i, (h : i < l.length) → ∃ g, o = some ⟨g, 0, none⟩ ∧ W.cell? ⟨g, i, none⟩ = some (.int .i64 (l[i] : Int)) := by
    rcases HLi.out.form with ⟨h1, h⟩ | ⟨g, cap, h1, h2, h3, h4⟩
    · exact ⟨none, 0, by rw [h]; exact h1, fun i hi => by omega⟩
    · exact ⟨some ⟨g, 0, none⟩, cap, h1, fun i h => ⟨g, rfl, h4 W i (Below.refl _ _) h⟩⟩
  clear h0
  obtain ⟨o, cap, rfl, hcell⟩ := hv
  have HC := Lib.hid hcell
  clear hcell HLi
  go_wp2_with fail
  go_loop [3, 5] (fun s j => ∃ i : Nat, i ≤ l.length ∧ j = .int .i64 (i : Int) ∧ s = .string (J i)) (fun _ j => l.length - (intOf j).toNat)
  case atStart => exact ⟨0, by omega, rfl, by rw [HJ.out]⟩
  case round =>
    obtain ⟨i, hi, rfl, rfl⟩ := hrel
    have hsz := HS.out i (by omega)
    by_cases hlt : i < l.length
    · obtain ⟨g, rfl, hc⟩ := HC.out i hlt
      have hp5 := HG.out i hlt
      have hF := Lib.hid (fun h1 => HF.out i h1 hlt)
      have hX := Lib.hid (fun h1 => HX.out i h1 hlt)
      obtain ⟨p, hp⟩ : ∃ p, l[i] = p := ⟨_, rfl⟩
      rw [hp] at hc hp5 hF hX
      obtain ⟨u, hu⟩ : ∃ u, J i = u := ⟨_, rfl⟩
      rw [hu] at hsz hF hX ⊢
      clear hp hu
      by_cases hi0 : i = 0
      · have HN := Lib.hid (hF.out (by omega))
        subst hi0
        clear hF hX
        obtain rfl | rfl | rfl | rfl | rfl : p = 0 ∨ p = 1 ∨ p = 2 ∨ p = 3 ∨ p = 4 := by omega
        · have e8 := utf_dg 0
          have hs8 : (Utf8.encode 48).size = 1 := by decide +kernel
          simp at hc
          go_wp2_with fail
          go_round
          case rel => exact ⟨1, by omega, by first | rfl | go_num, by rw [HN.out, ← (show Utf8.encode 48 = dg 0 from e8)] <;> rfl⟩
          case measure => simp [intOf] <;> omega
        · have e8 := utf_dg 1
          have hs8 : (Utf8.encode 49).size = 1 := by decide +kernel
          simp at hc
          go_wp2_with fail
          go_round
          case rel => exact ⟨1, by omega, by first | rfl | go_num, by rw [HN.out, ← (show Utf8.encode 49 = dg 1 from e8)] <;> rfl⟩
          case measure => simp [intOf] <;> omega
        · have e8 := utf_dg 2
          have hs8 : (Utf8.encode 50).size = 1 := by decide +kernel
          simp at hc
          go_wp2_with fail
          go_round
          case rel => exact ⟨1, by omega, by first | rfl | go_num, by rw [HN.out, ← (show Utf8.encode 50 = dg 2 from e8)] <;> rfl⟩
          case measure => simp [intOf] <;> omega
        · have e8 := utf_dg 3
          have hs8 : (Utf8.encode 51).size = 1 := by decide +kernel
          simp at hc
          go_wp2_with fail
          go_round
          case rel => exact ⟨1, by omega, by first | rfl | go_num, by rw [HN.out, ← (show Utf8.encode 51 = dg 3 from e8)] <;> rfl⟩
          case measure => simp [intOf] <;> omega
        · have e8 := utf_dg 4
          have hs8 : (Utf8.encode 52).size = 1 := by decide +kernel
          simp at hc
          go_wp2_with fail
          go_round
          case rel => exact ⟨1, by omega, by first | rfl | go_num, by rw [HN.out, ← (show Utf8.encode 52 = dg 4 from e8)] <;> rfl⟩
          case measure => simp [intOf] <;> omega
      · have HN := Lib.hid (hX.out (by omega))
        have hig : (0 : Int) < (i : Int) := by omega
        clear hF hX hi0
        obtain rfl | rfl | rfl | rfl | rfl : p = 0 ∨ p = 1 ∨ p = 2 ∨ p = 3 ∨ p = 4 := by omega
        · have e8 := utf_dg 0
          have hs8 : (Utf8.encode 48).size = 1 := by decide +kernel
          simp at hc
          go_wp2_with fail
          go_round
          case rel => exact ⟨i + 1, by omega, by first | rfl | go_num, by rw [HN.out, ← (show Utf8.encode 48 = dg 0 from e8)] <;> rfl⟩
          case measure => simp [intOf] <;> omega
        · have e8 := utf_dg 1
          have hs8 : (Utf8.encode 49).size = 1 := by decide +kernel
          simp at hc
          go_wp2_with fail
          go_round
          case rel => exact ⟨i + 1, by omega, by first | rfl | go_num, by rw [HN.out, ← (show Utf8.encode 49 = dg 1 from e8)] <;> rfl⟩
          case measure => simp [intOf] <;> omega
        · have e8 := utf_dg 2
          have hs8 : (Utf8.encode 50).size = 1 := by decide +kernel
          simp at hc
          go_wp2_with fail
          go_round
          case rel => exact ⟨i + 1, by omega, by first | rfl | go_num, by rw [HN.out, ← (show Utf8.encode 50 = dg 2 from e8)] <;> rfl⟩
          case measure => simp [intOf] <;> omega
        · have e8 := utf_dg 3
          have hs8 : (Utf8.encode 51).size = 1 := by decide +kernel
          simp at hc
          go_wp2_with fail
          go_round
          case rel => exact ⟨i + 1, by omega, by first | rfl | go_num, by rw [HN.out, ← (show Utf8.encode 51 = dg 3 from e8)] <;> rfl⟩
          case measure => simp [intOf] <;> omega
        · have e8 := utf_dg 4
          have hs8 : (Utf8.encode 52).size = 1 := by decide +kernel
          simp at hc
          go_wp2_with fail
          go_round
          case rel => exact ⟨i + 1, by omega, by first | rfl | go_num, by rw [HN.out, ← (show Utf8.encode 52 = dg 4 from e8)] <;> rfl⟩
          case measure => simp [intOf] <;> omega
    · have hil : i = l.length := by omega
      subst hil
      have HA2 := Lib.hid (HA.out)
      obtain ⟨u, hu⟩ : ∃ u, J l.length = u := ⟨_, rfl⟩
      rw [hu] at hsz HA2 ⊢
      clear hu
      go_wp2_with fail
      go_ret
      exact ⟨by rw [HT.out, HA2.out]; rfl, HB.out⟩

theorem rformat_okn (N S : Nat) (h : SOk N S) (w : World) : Calls Tryd.prog 29 #[.int .i64 (N : Int), .int .i64 (S : Int)] w fun e w' => e = .returned (.tuple #[.string (txs S), .int .i64 0]) ∧ Below w.heap.size w w' := by
  have H := Lib.hid (fun w => rchk_ok N S h w)
  have HT := Lib.hid (fun w => rtext_ok S h.lt w)
  clear h
  go_enter Tryd.func29, Tryd.ntmps29
  go_wp2_with fail
  refine (H.out _).mono ?_
  rintro e w' ⟨rfl, rfl⟩
  go_wp2_with fail
  refine (HT.out _).mono ?_
  rintro e w' ⟨rfl, hB⟩
  have HB := Lib.hid hB
  clear hB
  go_wp2_with fail
  go_ret2
  exact ⟨rfl, HB.out⟩
theorem rformat_bad (n s c : Int) (h0 : c ≠ 0) (Hc : ∀ w, Calls Tryd.prog 18 #[.int .i64 n, .int .i64 s] w fun e w' => e = .returned (.int .i64 c) ∧ w = w') (w : World) : Calls Tryd.prog 29 #[.int .i64 n, .int .i64 s] w fun e w' => e = .returned (.tuple #[.string ⟨#[]⟩, .int .i64 c]) ∧ w = w' := by
  have H := Lib.hid Hc
  have hb : (c != 0) = true := by simpa using h0
  clear Hc h0
  go_enter Tryd.func29, Tryd.ntmps29
  go_wp2_with fail
  refine (H.out _).mono ?_
  rintro e w' ⟨rfl, rfl⟩
  go_wp2_with fail
  go_ret2
  exact ⟨rfl, rfl⟩
theorem format_two (n s : Int) : ∃ (t : ByteArray) (c : Int), (∀ W, Tab W → Calls Tryd.prog 28 #[.int .i64 n, .int .i64 s] W fun e w' => e = .returned (.tuple #[.string t, .int .i64 c]) ∧ Below W.heap.size W w') ∧ (∀ W, Calls Tryd.prog 29 #[.int .i64 n, .int .i64 s] W fun e w' => e = .returned (.tuple #[.string t, .int .i64 c]) ∧ Below W.heap.size W w') := by
  rcases pbad n s with ⟨c, h0, h1, h2⟩ | ⟨N, S, rfl, rfl, h⟩
  · exact ⟨_, c, fun W _ => still (format_bad n s c h0 h1 W), fun W => still (rformat_bad n s c h0 h2 W)⟩
  · exact ⟨_, 0, fun W hT => format_okn N S h W hT, fun W => rformat_okn N S h W⟩
theorem parse_two (n : Int) (t : ByteArray) (ht : t.size ≤ 1000000) : ∃ a c : Int, (∀ W, Good W → Calls Tryd.prog 30 #[.int .i64 n, .string t] W fun e w' => e = .returned (.tuple #[.int .i64 a, .int .i64 c]) ∧ Below W.heap.size W w') ∧ (∀ W, Calls Tryd.prog 31 #[.int .i64 n, .string t] W fun e w' => e = .returned (.tuple #[.int .i64 a, .int .i64 c]) ∧ Below W.heap.size W w') := by
  by_cases h : NOut n
  · exact ⟨0, 1, fun W _ => still (parse_n n h t W), fun W => still (rparse_n n h t W)⟩
  · unfold NOut at h
    obtain ⟨N, rfl⟩ := Int.eq_ofNat_of_zero_le (show 0 ≤ n by omega)
    exact ⟨_, _, fun W hg => by
      obtain ⟨m, hm⟩ := hg.int
      exact parse_okn N (by omega) t ht m W hg.lt hm, fun W => rparse_okn N (by omega) t ht W⟩

set_option maxRecDepth 100000 in
set_option maxHeartbeats 16000000 in
theorem reads_ok (n s : Int) (t : ByteArray) (w : World) (hg : Good w) : Calls Tryd.prog 6 #[.int .i64 n, .int .i64 s, .string t] w fun e w' => e = .returned (.bool true) ∧ Below w.heap.size w w' := by
  by_cases hl : t.size ≤ 200
  · obtain ⟨u, c1, h1, h2⟩ := format_two n s
    obtain ⟨a, c2, h3, h4⟩ := parse_two n t (by omega)
    have H1 := Lib.hid h1
    have H2 := Lib.hid h2
    have H3 := Lib.hid h3
    have H4 := Lib.hid h4
    have HG := Lib.hid hg
    have hli : (t.size : Int) ≤ 200 := by omega
    have hu : (u.toList == u.toList) = true := by simp
    clear h1 h2 h3 h4 hg hl
    go_enter Tryd.func6, Tryd.ntmps6
    go_wp2_with fail
    refine (H1.out _ HG.out.tab).mono ?_
    rintro e W1 ⟨rfl, hB⟩
    have B1 : Hid (Below w.heap.size w W1) := Lib.hid hB
    clear hB H1
    go_wp2_with fail
    refine (H2.out _).mono ?_
    rintro e W2 ⟨rfl, hB⟩
    have B2 : Hid (Below w.heap.size w W2) := Lib.hid (bt B1.out hB)
    clear hB H2 B1
    go_wp2_with fail
    refine (H3.out _ (HG.out.below B2.out)).mono ?_
    rintro e W3 ⟨rfl, hB⟩
    have B3 : Hid (Below w.heap.size w W3) := Lib.hid (bt B2.out hB)
    clear hB H3 B2
    go_wp2_with fail
    refine (H4.out _).mono ?_
    rintro e W4 ⟨rfl, hB⟩
    have B4 : Hid (Below w.heap.size w W4) := Lib.hid (bt B3.out hB)
    clear hB H4 B3
    go_wp2_with fail
    refine (awake_good _ (HG.out.below B4.out)).mono ?_
    rintro e W10 ⟨rfl, hB⟩
    have B10 : Hid (Below w.heap.size w W10) := Lib.hid (bt B4.out hB)
    clear hB B4
    go_wp2_with fail
    go_ret
    exact ⟨rfl, B10.out⟩
  · have HG := Lib.hid hg
    have hli : (200 : Int) < (t.size : Int) := by omega
    clear hg hl
    go_enter Tryd.func6, Tryd.ntmps6
    go_wp2_with fail
    refine (awake_good _ HG.out).mono ?_
    rintro e W10 ⟨rfl, hB⟩
    have B10 : Hid (Below w.heap.size w W10) := Lib.hid hB
    clear hB
    go_wp2_with fail
    go_ret
    exact ⟨rfl, B10.out⟩
end Go.Proofs.YtienbebbgioccaaDoor
