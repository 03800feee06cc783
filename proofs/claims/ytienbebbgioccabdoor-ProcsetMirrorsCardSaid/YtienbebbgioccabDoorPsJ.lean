/- Package procset: Parse. -/
import Derived.Test.YtienbebbgioccabDoorPsI
import Derived.WalkKit
import Derived.WalkSpells
import Derived.WalkLawsBesides
import Derived.Handy
import Derived.Deep.QuietTactic
import Derived.BigQuiet
import Derived.Outline
import Derived.Laws.BitsAllLaws
import Derived.IntWalk
import Derived.Lib.SmallJoins
import Derived.Lib.Hide
import Derived.Deep.DeepCutAuto
import Derived.LoopTactic
import Derived.Deep.RegionWith
namespace Go.Proofs.YtienbebbgioccabDoor
set_option linter.unusedVariables false
set_option linter.unusedSimpArgs false
open Go.RowKit

def zl (l : List Nat) : List Int := l.map fun x : Nat => (x : Int)
theorem zl_len (l : List Nat) : (zl l).length = l.length := by simp [zl]
theorem of_lies (N : Nat) (h1 : 1 ≤ N ∧ N ≤ 5) (l : List Nat) (hl : l.length ≤ 1000000) (v : Value) (w : World) (hv : LiesI w v l) :
    Calls Tryd.prog 12 #[.int .i64 (N : Int), v] w fun e w' => e = .returned (.tuple #[.int .i64 (ofz N 0 (zl l)).1, .int .i64 (ofz N 0 (zl l)).2]) ∧ w = w' := by
  rcases hv.form with ⟨rfl, h0⟩ | ⟨g, c, rfl, hg, hc, HG⟩
  · have e : l = [] := List.length_eq_zero_iff.1 h0
    subst e
    exact of_nil N h1 w
  · have h := of_okn N h1 (zl l) (by rw [zl_len]; exact hl) g 0 c w (fun i h => by
      have h2 : i < l.length := by rw [zl_len] at h; exact h
      rw [Nat.zero_add, HG w i (Below.refl _ _) h2]
      simp [zl])
    rw [zl_len] at h
    exact h
theorem ptl_len : ∀ (ps : List ByteArray) (l : List Nat), ptl ps = some l → l.length = ps.length
  | [], l, h => by
    unfold ptl at h
    injection h with h
    subst h; rfl
  | x :: r, l, h => by
    unfold ptl at h
    cases h1 : pg x with
    | none => rw [h1] at h; simp at h
    | some p => cases h2 : ptl r with
      | none => rw [h1, h2] at h; simp at h
      | some q =>
        rw [h1, h2] at h
        injection h with h
        subst h
        simp [ptl_len r q h2]
theorem dgz_len {s : ByteArray} {l : List Nat} (h : dgz s = some l) : l.length ≤ s.size := by
  unfold dgz at h
  split at h
  · split at h
    · injection h with h; subst h; simp
    · have e := ptl_len _ _ h
      rw [e, cpts_len]
      have h1 : Lib.countB (inn s) { data := #[44] } ≤ (inn s).size := Lib.countB_le { data := #[44] } (by decide) _ (inn s) (Nat.le_refl _)
      have h2 : (inn s).size ≤ s.size - 2 := by unfold inn; rw [ByteArray.size_extract]; omega
      have h3 : 2 ≤ s.size := by rename_i h4 _; exact h4.1
      omega
  · simp at h
/-- Somewhere a number is less than the one before it. -/
def Desc (l : List Nat) : Prop := ∃ k, ∃ h : k + 1 < l.length, l[k + 1] < l[k]
/-- No number before this place is less than the one before it. -/
def Ups (l : List Nat) (i : Nat) : Prop := ∀ k, k + 1 < i → (h : k + 1 < l.length) → ¬ l[k + 1] < l[k]
open Classical in
/-- What Parse answers. -/
noncomputable def pz (N : Nat) (s : ByteArray) : Int × Int := if 24 < s.size then (0, 13) else match dgz s with
  | none => (0, 4)
  | some l => if (ofz N 0 (zl l)).2 ≠ 0 then (0, (ofz N 0 (zl l)).2) else if Desc l then (0, 14) else ((ofz N 0 (zl l)).1, 0)
def PRes (z : Int × Int) (B : Nat) (w : World) (e : Ending) (w' : World) : Prop := e = .returned (.tuple #[.int .i64 z.1, .int .i64 z.2]) ∧ Below B w w'
theorem pres {a c : Int} {z : Int × Int} {B : Nat} {w w' : World} (h : z = (a, c)) (hb : Below B w w') : PRes z B w (.returned (.tuple #[.int .i64 a, .int .i64 c])) w' := by subst h; exact ⟨rfl, hb⟩

theorem parse_n (n : Int) (h : NOut n) (s : ByteArray) (w : World) : Calls Tryd.prog 15 #[.int .i64 n, .string s] w fun e w' => e = .returned (.tuple #[.int .i64 0, .int .i64 1]) ∧ w = w' := by
  have H := Lib.hid (fun w => pchk_n n 0 h w)
  clear h
  go_enter Tryd.func15, Tryd.ntmps15
  go_wp2_with fail
  refine (H.out _).mono ?_
  rintro e w' ⟨rfl, rfl⟩
  go_wp2_with fail
  go_ret2
  exact ⟨rfl, rfl⟩

set_option maxRecDepth 100000 in
set_option maxHeartbeats 8000000 in
theorem parse_okn (N : Nat) (h1 : 1 ≤ N ∧ N ≤ 5) (s : ByteArray) (hs : s.size ≤ 1000000) (m : Int) (w : World) (hw : 3 < w.heap.size) (hm : w.cell? ⟨3, 0, none⟩ = some (.int .i64 m)) :
    Calls Tryd.prog 15 #[.int .i64 (N : Int), .string s] w (PRes (pz N s) w.heap.size w) := by
  have H := Lib.hid (fun w => pchk_ok N 0 ⟨h1.1, h1.2, Nat.pow_pos (by omega)⟩ w)
  by_cases hlong : 24 < s.size
  · have Hz : Hid (pz N s = (0, 13)) := Lib.hid (by unfold pz; rw [if_pos hlong])
    have hli : (24 : Int) < (s.size : Int) := by omega
    clear hlong h1 hm
    go_enter Tryd.func15, Tryd.ntmps15
    go_wp2_with fail
    refine (H.out _).mono ?_
    rintro e w' ⟨rfl, rfl⟩
    go_wp2_with fail
    go_ret2
    exact pres Hz.out (Below.refl _ _)
  have HD := Lib.hid (digits_any s hs m w hw hm)
  have hli : (s.size : Int) ≤ 24 := by omega
  obtain ⟨z, hz⟩ : ∃ z, pz N s = z := ⟨_, rfl⟩
  unfold pz at hz
  rw [if_neg hlong] at hz
  have Hlen := Lib.hid (fun l h => dgz_len (s := s) (l := l) h)
  have e0 : pz N s = z := by unfold pz; rw [if_neg hlong]; exact hz
  rw [e0]
  clear e0 hm hlong
  have Hz := Lib.hid hz
  have H1 := Lib.hid h1
  clear hz h1
  go_enter Tryd.func15, Tryd.ntmps15
  go_wp2_with fail
  refine (H.out _).mono ?_
  rintro e w' ⟨rfl, rfl⟩
  go_wp2_with fail
  refine HD.out.mono ?_
  rintro e W ⟨hB, hm⟩
  clear HD
  have HB := Lib.hid hB
  cases hdg : dgz s with
  | none =>
    rw [hdg] at hm
    have hz := Hz.out
    rw [hdg] at hz
    have Hz2 := Lib.hid hz.symm
    clear Hz Hlen hdg hz hB
    subst hm
    go_wp2_with fail
    go_ret2
    exact pres Hz2.out HB.out
  | some l =>
    rw [hdg] at hm
    have hz := Hz.out
    rw [hdg] at hz
    simp only at hz
    have hll : l.length ≤ 1000000 := Nat.le_trans (Hlen.out l hdg) hs
    clear Hz Hlen hdg hB
    obtain ⟨v, rfl, hL⟩ := hm
    have HO := Lib.hid (of_lies N H1.out l hll v W hL)
    obtain ⟨a, ha⟩ : ∃ a, (ofz N 0 (zl l)).1 = a := ⟨_, rfl⟩
    obtain ⟨c, hc⟩ : ∃ c, (ofz N 0 (zl l)).2 = c := ⟨_, rfl⟩
    rw [ha, hc] at HO hz
    clear ha hc
    by_cases hc0 : c = 0
    · rw [if_neg (not_not_intro hc0)] at hz
      subst hc0
      rcases hL.form with ⟨rfl, h0⟩ | ⟨g, cg, rfl, hg, hcg, HG⟩
      · have hnd : ¬ Desc l := fun ⟨k, h, _⟩ => by omega
        rw [if_neg hnd] at hz
        have Hz2 := Lib.hid hz.symm
        clear hnd hz hL
        go_wp2_with fail
        refine HO.out.mono ?_
        rintro e w' ⟨rfl, rfl⟩
        go_wp2_with fail
        go_rounds 1
        go_ret2
        exact pres Hz2.out HB.out
      · have HG' := Lib.hid HG
        have Hz2 := Lib.hid hz
        clear hz hL HG
        go_wp2_with fail
        refine HO.out.mono ?_
        rintro e w' ⟨rfl, rfl⟩
        go_wp2_with fail
        go_loopw [11] (fun j wr => ∃ i : Nat, 1 ≤ i ∧ i ≤ l.length + 1 ∧ j = .int .i64 i ∧ (∃ d, wr = W.drewN d) ∧ Ups l i) (fun j _ => l.length - (intOf j).toNat)
        case atStart => exact ⟨1, by omega, by omega, rfl, ⟨0, rfl⟩, fun k hk => by omega⟩
        case round =>
          obtain ⟨i, hi1, hi, rfl, ⟨d, rfl⟩, hup⟩ := hrel
          have Hup := Lib.hid hup
          clear hup
          have Hbl : Hid (Below w.heap.size w (W.drewN d)) := Lib.hid (below_dn d HB.out)
          by_cases hlt : i < l.length
          · obtain ⟨k, hk⟩ : ∃ k, i = k + 1 := ⟨i - 1, by omega⟩
            have hwk : IntKind.i64.wrap ((i : Int) - 1) = (k : Int) := by
              rw [IntWalk.i64_in _ (by omega)]; omega
            have hb : Below W.heap.size W (W.drewN d) := below_dn d (Below.refl _ _)
            have hkl : (k : Int) < (l.length : Int) := by omega
            have c0 := HG'.out _ i hb hlt
            have d0 := HG'.out _ k hb (by omega)
            by_cases hless : l[i] < l[k]'(by omega)
            · have hdesc : Desc l := ⟨k, by omega, by subst hk; exact hless⟩
              have Hz3 : Hid (z = (0, 14)) := Lib.hid (by
                have h := Hz2.out
                rw [if_pos hdesc] at h
                exact h.symm)
              obtain ⟨y, hy⟩ : ∃ y, l[i] = y := ⟨_, rfl⟩
              obtain ⟨x, hx⟩ : ∃ x, l[k]'(by omega) = x := ⟨_, rfl⟩
              rw [hy, hx] at hless
              rw [hy] at c0
              rw [hx] at d0
              have hyx : (y : Int) < (x : Int) := by omega
              clear hy hx hdesc hb hk hless
              simp at c0 d0
              go_wp2_with fail
              (try go_quiet (fail))
              (try go_wp2_with fail)
              go_ret2
              exact pres Hz3.out (by first | exact Hbl.out | exact below_dn _ Hbl.out)
            · have HN : Hid (Ups l (i + 1)) := Lib.hid (fun q hq h => by
                by_cases hqk : q + 1 < i
                · exact Hup.out q hqk h
                · have e : q = k := by omega
                  subst e; subst hk; exact hless)
              obtain ⟨y, hy⟩ : ∃ y, l[i] = y := ⟨_, rfl⟩
              obtain ⟨x, hx⟩ : ∃ x, l[k]'(by omega) = x := ⟨_, rfl⟩
              rw [hy, hx] at hless
              rw [hy] at c0
              rw [hx] at d0
              have hyx : (x : Int) ≤ (y : Int) := by omega
              clear hy hx hb hk hless
              simp at c0 d0
              go_wp2_with fail
              (try go_quiet (fail))
              (try go_wp2_with fail)
              go_roundw
              case rel => exact ⟨i + 1, by omega, by omega, by go_num, ⟨_, by first | rfl | (simp only [World.drewN_drewN]; rfl)⟩, HN.out⟩
              case measure => simp [intOf]; omega
          · have hdesc : ¬ Desc l := fun ⟨k, h, h2⟩ => Hup.out k (by omega) h h2
            have Hz3 : Hid (z = (a, 0)) := Lib.hid (by
              have h := Hz2.out
              rw [if_neg hdesc] at h
              exact h.symm)
            clear hdesc
            go_wp2_with fail
            go_ret2
            exact pres Hz3.out (by first | exact Hbl.out | exact below_dn _ Hbl.out)
    · rw [if_pos hc0] at hz
      have Hz2 := Lib.hid hz.symm
      have hcb : (c != 0) = true := by simpa using hc0
      clear hz hL hc0
      go_wp2_with fail
      refine HO.out.mono ?_
      rintro e w' ⟨rfl, rfl⟩
      go_wp2_with fail
      go_ret2
      exact pres Hz2.out HB.out
end Go.Proofs.YtienbebbgioccabDoor
