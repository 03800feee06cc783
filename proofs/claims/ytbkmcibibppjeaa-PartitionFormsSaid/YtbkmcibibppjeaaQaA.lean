/- What the laws of this chapter ask of their lists first; slices.Equal. -/
import Derived.Test.YtbkmcibibppjeaaPtZ
import Derived.WalkKit
import Derived.WalkSpells
import Derived.WalkLawsBesides
import Derived.Handy
import Derived.Deep.QuietTactic
import Derived.BigQuiet
import Derived.Outline
import Derived.Laws.BitsAllLaws
import Derived.IntWalk
import Derived.Lib.SmallJoins
import Derived.Lib.Hide
import Derived.Deep.DeepCutAuto
import Derived.LoopTactic
import Derived.Deep.RegionWith
namespace Go.Proofs.Ytbkmcibibppjeaa
set_option linter.unusedVariables false
set_option linter.unusedSimpArgs false
open Go.RowKit Part

/-- Whether two lists are equal. -/
def eqb (n : Nat) (f : Nat → Int) (m : Nat) (g : Nat → Int) : Bool := decide (n = m ∧ ∀ i, i < n → f i = g i)
theorem eqb_self {n : Nat} {f g : Nat → Int} (h : ∀ i, i < n → f i = g i) : eqb n f n g = true := decide_eq_true ⟨rfl, h⟩
set_option maxHeartbeats 1000000 in
theorem equal_any (n m : Nat) (hn : n ≤ 1000000) (f g : Nat → Int) (o p : Option Addr) (cap cap' : Nat) (w : World) (hL : Lz w o n f) (hL' : Lz w p m g) : Calls Try.prog 35 #[.slice o n cap, .slice p m cap'] w fun e w' => e = .returned (.bool (eqb n f m g)) ∧ Below w.heap.size w w' := by
  obtain ⟨r, hr⟩ : ∃ r, eqb n f m g = r := ⟨_, rfl⟩
  rw [hr]
  have HR := Lib.hid hr
  have HL := Lib.hid hL
  have HL' := Lib.hid hL'
  clear hL hL' hr
  by_cases hnm : n = m
  · subst hnm
    go_enter Try.func35, Try.ntmps35
    go_wp2_with fail
    go_loopw [13] (fun j wr => ∃ i : Nat, i ≤ n ∧ j = .int .i64 (i : Int) ∧ (∀ c, c < i → f c = g c) ∧ ∃ d, wr = w.drewN d) (fun j _ => n - (intOf j).toNat)
    case atStart => exact ⟨0, by omega, rfl, fun c h => absurd h (Nat.not_lt_zero _), 0, rfl⟩
    case round =>
      obtain ⟨i, hi, rfl, hno, d, rfl⟩ := hrel
      have HNo := Lib.hid hno
      clear hno
      by_cases hlt : i < n
      · obtain ⟨bl, ofs, rfl, hbl, hcl⟩ := HL.out (by omega)
        obtain ⟨bg, ofg, rfl, hbg, hcg⟩ := HL'.out (by omega)
        have c1 := hcl i hlt
        have c2 := hcg i hlt
        obtain ⟨x, hx⟩ : ∃ x, f i = x := ⟨_, rfl⟩
        obtain ⟨y, hy⟩ : ∃ y, g i = y := ⟨_, rfl⟩
        rw [hx] at c1
        rw [hy] at c2
        have HX := Lib.hid hx
        have HY := Lib.hid hy
        clear hcl hcg hx hy
        have hi1 : (i : Int) < (n : Int) := by omega
        by_cases hxy : x = y
        · subst hxy
          go_wp2_with fail
          go_quiet (fail)
          go_wp2_with fail
          go_roundw
          case rel =>
            refine ⟨i + 1, by omega, by go_num, fun c hc => ?_, _, rfl⟩
            by_cases e : c = i
            · subst e; rw [HX.out, HY.out]
            · exact HNo.out c (by omega)
          case measure => simp [intOf]; omega
        · have h0 : r = false := by rw [← HR.out]; exact decide_eq_false fun h => hxy (by rw [← HX.out, ← HY.out]; exact h.2 i hlt)
          subst h0
          have hne : (x != y) = true := by rw [bne_iff_ne]; exact hxy
          have hne2 : (x == y) = false := by rw [beq_eq_false_iff_ne]; exact hxy
          clear hxy
          go_wp2_with fail
          go_quiet (fail)
          go_wp2_with fail
          go_ret
          exact ⟨rfl, below_dn _ (below_dn _ (Below.refl _ _))⟩
      · have e : i = n := by omega
        subst e
        have h0 : r = true := by rw [← HR.out]; exact decide_eq_true ⟨rfl, HNo.out⟩
        subst h0
        go_wp2_with fail
        go_ret
        exact ⟨rfl, below_dn _ (Below.refl _ _)⟩
  · have h0 : r = false := by rw [← HR.out]; exact decide_eq_false fun h => hnm h.1
    subst h0
    have h1 : (n == m) = false := by simpa using hnm
    have h2 : ((n : Int) != (m : Int)) = true := by rw [bne_iff_ne]; omega
    clear hnm
    go_enter Try.func35, Try.ntmps35
    go_wp2_with fail
    go_ret
    exact ⟨rfl, Below.refl _ _⟩

def anyb (K : Nat) (p : Nat → Bool) : Bool := decide (∃ c, c < K ∧ p c = true)
def allb (K : Nat) (p : Nat → Bool) : Bool := decide (∀ c, c < K → p c = true)
theorem any_all (K : Nat) (p : Nat → Bool) : (!anyb K (fun c => !p c)) = allb K p := by
  unfold anyb allb
  rw [← decide_not]
  congr 1
  apply propext
  refine ⟨fun h c hc => ?_, fun h ⟨c, hc, hp⟩ => by simp [h c hc] at hp⟩
  cases hp : p c with
  | true => rfl
  | false => exact absurd ⟨c, hc, by simp [hp]⟩ h

set_option maxHeartbeats 1000000 in
theorem index_few (K : Nat) (hK : K ≤ 1000) (oc : Nat → Option Addr) (nc cc : Nat → Nat) (p : Nat → Bool) (b off cap : Nat) (w : World) (hcell : ∀ c, c < K → w.cell? ⟨b, off + c, none⟩ = some (.slice (oc c) (nc c) (cc c)))
    (hcall : ∀ c, c < K → Calls Try.prog 39 #[.slice (oc c) (nc c) (cc c)] w fun e w' => e = .returned (.bool (p c)) ∧ w = w') :
    Calls Try.prog 58 #[.slice (some ⟨b, off, none⟩) K cap, .func (.func 39) #[] #[]] w fun e w' => ((∃ r : Nat, e = .returned (.int .i64 (r : Int)) ∧ r < K ∧ p r = true) ∨ (e = .returned (.int .i64 (-1)) ∧ ∀ c, c < K → p c = false)) ∧ w = w' := by
  have HC := Lib.hid hcell
  have HP := Lib.hid hcall
  clear hcell hcall
  go_enter Try.func58, Try.ntmps58
  go_wp2_with fail
  go_loop [8] (fun j => ∃ i : Nat, i ≤ K ∧ j = .int .i64 (i : Int) ∧ ∀ c, c < i → p c = false) (fun j => K - (intOf j).toNat)
  case atStart => exact ⟨0, by omega, rfl, fun c h => absurd h (Nat.not_lt_zero _)⟩
  case round =>
    obtain ⟨i, hi, rfl, hno⟩ := hrel
    have HNo := Lib.hid hno
    clear hno
    by_cases hlt : i < K
    · have hc := HC.out i hlt
      have HPi := Lib.hid (HP.out i hlt)
      have hi1 : (i : Int) < (K : Int) := by omega
      cases hpi : p i with
      | true =>
        rw [hpi] at HPi
        have HPI := Lib.hid hpi
        clear hpi
        go_wp2_with fail
        refine HPi.out.mono ?_
        rintro e w' ⟨rfl, rfl⟩
        go_wp2_with fail
        go_ret
        exact ⟨.inl ⟨i, rfl, hlt, HPI.out⟩, rfl⟩
      | false =>
        rw [hpi] at HPi
        have HPI := Lib.hid hpi
        clear hpi
        go_wp2_with fail
        refine HPi.out.mono ?_
        rintro e w' ⟨rfl, rfl⟩
        go_wp2_with fail
        go_round
        case rel =>
          refine ⟨i + 1, by omega, by go_num, fun c hc => ?_⟩
          by_cases e : c = i
          · subst e; exact HPI.out
          · exact HNo.out c (by omega)
        case measure => simp [intOf]; omega
    · have e : i = K := by omega
      subst e
      go_wp2_with fail
      go_ret
      exact ⟨.inr ⟨rfl, HNo.out⟩, rfl⟩
theorem contains_few (K : Nat) (hK : K ≤ 1000) (oc : Nat → Option Addr) (nc cc : Nat → Nat) (p : Nat → Bool) (b off cap : Nat) (w : World) (hcell : ∀ c, c < K → w.cell? ⟨b, off + c, none⟩ = some (.slice (oc c) (nc c) (cc c)))
    (hcall : ∀ c, c < K → Calls Try.prog 39 #[.slice (oc c) (nc c) (cc c)] w fun e w' => e = .returned (.bool (p c)) ∧ w = w') :
    Calls Try.prog 38 #[.slice (some ⟨b, off, none⟩) K cap, .func (.func 39) #[] #[]] w fun e w' => e = .returned (.bool (anyb K p)) ∧ w = w' := by
  have H := Lib.hid (index_few K hK oc nc cc p b off cap w hcell hcall)
  obtain ⟨r0, hr0⟩ : ∃ r0, anyb K p = r0 := ⟨_, rfl⟩
  rw [hr0]
  have HR := Lib.hid hr0
  clear hcell hcall hr0
  go_enter Try.func38, Try.ntmps38
  go_wp2_with fail
  refine H.out.mono ?_
  rintro e w' ⟨⟨r, rfl, hr, hp⟩ | ⟨rfl, hno⟩, rfl⟩
  · have h0 : r0 = true := by rw [← HR.out]; exact decide_eq_true ⟨r, hr, hp⟩
    clear hp
    subst h0
    have h1 : (0 : Int) ≤ (r : Int) := by omega
    go_wp2_with fail
    go_ret
    exact ⟨by simp <;> omega, rfl⟩
  · have h0 : r0 = false := by rw [← HR.out]; exact decide_eq_false (fun ⟨r, hr, hp⟩ => by rw [hno r hr] at hp; cases hp)
    clear hno
    subst h0
    go_wp2_with fail
    go_ret
    exact ⟨rfl, rfl⟩

set_option maxHeartbeats 1000000 in
theorem index_good (lb : Value) (K : Nat) (hK : K ≤ 1000) (oc : Nat → Option Addr) (nc cc : Nat → Nat) (p : Nat → Bool) (b off cap : Nat) (w : World) (hcell : ∀ c, c < K → w.cell? ⟨b, off + c, none⟩ = some (.slice (oc c) (nc c) (cc c)))
    (hcall : ∀ c, c < K → Calls Try.prog 55 #[.slice (oc c) (nc c) (cc c), lb] w fun e w' => e = .returned (.bool (p c)) ∧ w = w') :
    Calls Try.prog 58 #[.slice (some ⟨b, off, none⟩) K cap, .func (.func 55) #[] #[lb]] w fun e w' => ((∃ r : Nat, e = .returned (.int .i64 (r : Int)) ∧ r < K ∧ p r = true) ∨ (e = .returned (.int .i64 (-1)) ∧ ∀ c, c < K → p c = false)) ∧ w = w' := by
  have HC := Lib.hid hcell
  have HP := Lib.hid hcall
  clear hcell hcall
  go_enter Try.func58, Try.ntmps58
  go_wp2_with fail
  go_loop [8] (fun j => ∃ i : Nat, i ≤ K ∧ j = .int .i64 (i : Int) ∧ ∀ c, c < i → p c = false) (fun j => K - (intOf j).toNat)
  case atStart => exact ⟨0, by omega, rfl, fun c h => absurd h (Nat.not_lt_zero _)⟩
  case round =>
    obtain ⟨i, hi, rfl, hno⟩ := hrel
    have HNo := Lib.hid hno
    clear hno
    by_cases hlt : i < K
    · have hc := HC.out i hlt
      have HPi := Lib.hid (HP.out i hlt)
      have hi1 : (i : Int) < (K : Int) := by omega
      cases hpi : p i with
      | true =>
        rw [hpi] at HPi
        have HPI := Lib.hid hpi
        clear hpi
        go_wp2_with fail
        refine HPi.out.mono ?_
        rintro e w' ⟨rfl, rfl⟩
        go_wp2_with fail
        go_ret
        exact ⟨.inl ⟨i, rfl, hlt, HPI.out⟩, rfl⟩
      | false =>
        rw [hpi] at HPi
        have HPI := Lib.hid hpi
        clear hpi
        go_wp2_with fail
        refine HPi.out.mono ?_
        rintro e w' ⟨rfl, rfl⟩
        go_wp2_with fail
        go_round
        case rel =>
          refine ⟨i + 1, by omega, by go_num, fun c hc => ?_⟩
          by_cases e : c = i
          · subst e; exact HPI.out
          · exact HNo.out c (by omega)
        case measure => simp [intOf]; omega
    · have e : i = K := by omega
      subst e
      go_wp2_with fail
      go_ret
      exact ⟨.inr ⟨rfl, HNo.out⟩, rfl⟩
theorem contains_good (lb : Value) (K : Nat) (hK : K ≤ 1000) (oc : Nat → Option Addr) (nc cc : Nat → Nat) (p : Nat → Bool) (b off cap : Nat) (w : World) (hcell : ∀ c, c < K → w.cell? ⟨b, off + c, none⟩ = some (.slice (oc c) (nc c) (cc c)))
    (hcall : ∀ c, c < K → Calls Try.prog 55 #[.slice (oc c) (nc c) (cc c), lb] w fun e w' => e = .returned (.bool (p c)) ∧ w = w') :
    Calls Try.prog 38 #[.slice (some ⟨b, off, none⟩) K cap, .func (.func 55) #[] #[lb]] w fun e w' => e = .returned (.bool (anyb K p)) ∧ w = w' := by
  have H := Lib.hid (index_good lb K hK oc nc cc p b off cap w hcell hcall)
  obtain ⟨r0, hr0⟩ : ∃ r0, anyb K p = r0 := ⟨_, rfl⟩
  rw [hr0]
  have HR := Lib.hid hr0
  clear hcell hcall hr0
  go_enter Try.func38, Try.ntmps38
  go_wp2_with fail
  refine H.out.mono ?_
  rintro e w' ⟨⟨r, rfl, hr, hp⟩ | ⟨rfl, hno⟩, rfl⟩
  · have h0 : r0 = true := by rw [← HR.out]; exact decide_eq_true ⟨r, hr, hp⟩
    clear hp
    subst h0
    have h1 : (0 : Int) ≤ (r : Int) := by omega
    go_wp2_with fail
    go_ret
    exact ⟨by simp <;> omega, rfl⟩
  · have h0 : r0 = false := by rw [← HR.out]; exact decide_eq_false (fun ⟨r, hr, hp⟩ => by rw [hno r hr] at hp; cases hp)
    clear hno
    subst h0
    go_wp2_with fail
    go_ret
    exact ⟨rfl, rfl⟩

def fewb (n : Nat) : Bool := decide (n ≤ 30 ∨ n = 65537 ∨ n = 65538)
theorem rfew_any (o : Option Addr) (n cap : Nat) (w : World) : Calls Try.prog 40 #[.slice o n cap] w fun e w' => e = .returned (.bool (decide (n ≤ 30))) ∧ w = w' := by
  by_cases h : n ≤ 30
  · have h1 : (n : Int) ≤ 30 := by omega
    rw [decide_eq_true h]
    clear h
    go_enter Try.func40, Try.ntmps40
    go_wp2_with fail
    go_ret
    exact ⟨by simp <;> omega, rfl⟩
  · have h1 : (30 : Int) < (n : Int) := by omega
    rw [decide_eq_false h]
    clear h
    go_enter Try.func40, Try.ntmps40
    go_wp2_with fail
    go_ret
    exact ⟨by simp <;> omega, rfl⟩
theorem few1_any (o : Option Addr) (n cap : Nat) (w : World) : Calls Try.prog 39 #[.slice o n cap] w fun e w' => e = .returned (.bool (!fewb n)) ∧ w = w' := by
  have H := Lib.hid (fun w => rfew_any o n cap w)
  by_cases a1 : n ≤ 30
  · rw [decide_eq_true a1] at H
    have e : (!fewb n) = false := by unfold fewb; rw [decide_eq_true (.inl a1)]; rfl
    rw [e]
    have b1 : (n : Int) ≤ 65538 := by omega
    clear e a1
    go_enter Try.func39, Try.ntmps39
    go_wp2_with fail
    refine (H.out _).mono ?_
    rintro e w' ⟨rfl, rfl⟩
    go_wp2_with fail
    go_ret
    exact ⟨by simp <;> omega, rfl⟩
  · rw [decide_eq_false a1] at H
    by_cases a2 : n ≤ 65536
    · have e : (!fewb n) = true := by unfold fewb; rw [decide_eq_false (by omega)]; rfl
      rw [e]
      have b1 : (n : Int) ≤ 65536 := by omega
      clear e a1 a2
      go_enter Try.func39, Try.ntmps39
      go_wp2_with fail
      refine (H.out _).mono ?_
      rintro e w' ⟨rfl, rfl⟩
      go_wp2_with fail
      go_ret
      exact ⟨by simp <;> omega, rfl⟩
    · by_cases a3 : n ≤ 65538
      · have e : (!fewb n) = false := by unfold fewb; rw [decide_eq_true (by omega)]; rfl
        rw [e]
        have b1 : (65536 : Int) < (n : Int) := by omega
        have b2 : (n : Int) ≤ 65538 := by omega
        clear e a1 a2 a3
        go_enter Try.func39, Try.ntmps39
        go_wp2_with fail
        refine (H.out _).mono ?_
        rintro e w' ⟨rfl, rfl⟩
        go_wp2_with fail
        go_ret
        exact ⟨by simp <;> omega, rfl⟩
      · have e : (!fewb n) = true := by unfold fewb; rw [decide_eq_false (by omega)]; rfl
        rw [e]
        have b1 : (65538 : Int) < (n : Int) := by omega
        clear e a1 a2 a3
        go_enter Try.func39, Try.ntmps39
        go_wp2_with fail
        refine (H.out _).mono ?_
        rintro e w' ⟨rfl, rfl⟩
        go_wp2_with fail
        go_ret
        exact ⟨by simp <;> omega, rfl⟩
theorem few_any (K : Nat) (hK : K ≤ 1000) (oc : Nat → Option Addr) (nc cc : Nat → Nat) (b off cap : Nat) (w : World) (hcell : ∀ c, c < K → w.cell? ⟨b, off + c, none⟩ = some (.slice (oc c) (nc c) (cc c))) :
    Calls Try.prog 11 #[.slice (some ⟨b, off, none⟩) K cap] w fun e w' => e = .returned (.bool (allb K fun c => fewb (nc c))) ∧ w = w' := by
  have H := Lib.hid (contains_few K hK oc nc cc (fun c => !fewb (nc c)) b off cap w hcell (fun c _ => few1_any (oc c) (nc c) (cc c) w))
  have e := any_all K fun c => fewb (nc c)
  obtain ⟨r, hr⟩ : ∃ r, anyb K (fun c => !fewb (nc c)) = r := ⟨_, rfl⟩
  rw [hr] at H e
  rw [← e]
  clear e hr hcell
  go_enter Try.func11, Try.ntmps11
  go_wp2_with fail
  refine H.out.mono ?_
  rintro e w' ⟨rfl, rfl⟩
  cases r with
  | true =>
    go_wp2_with fail
    go_ret
    exact ⟨rfl, rfl⟩
  | false =>
    go_wp2_with fail
    go_ret
    exact ⟨rfl, rfl⟩
/-- A short list that is a partition of as many elements as the first one. -/
def goodb (n : Nat) (f : Nat → Int) (n0 : Nat) : Bool := decide (n ≤ 30 ∧ pcd n f = 0 ∧ n = n0)
theorem good1_any (n n0 : Nat) (f : Nat → Int) (o o0 : Option Addr) (cap c0 k b K cK : Nat) (hK : 0 < K) (w : World) (hL : Lz w o n f) (hk : w.cell? ⟨k, 0, none⟩ = some (.slice (some ⟨b, 0, none⟩) K cK)) (hb : w.cell? ⟨b, 0, none⟩ = some (.slice o0 n0 c0)) :
    Calls Try.prog 55 #[.slice o n cap, .pointer (some ⟨k, 0, none⟩)] w fun e w' => e = .returned (.bool (!goodb n f n0)) ∧ w = w' := by
  have H := Lib.hid (fun w => rfew_any o n cap w)
  have HC := Lib.hid (rcheck_any n f o cap w hL)
  have hK1 : (0 : Int) < (K : Int) := by omega
  clear hL
  by_cases a1 : n ≤ 30
  · rw [decide_eq_true a1] at H
    obtain ⟨r, hr⟩ : ∃ r, pcd n f = r := ⟨_, rfl⟩
    rw [hr] at HC
    by_cases a2 : r = 0
    · subst a2
      by_cases a3 : n = n0
      · have e : (!goodb n f n0) = false := by unfold goodb; rw [decide_eq_true ⟨a1, hr, a3⟩]; rfl
        rw [e]
        subst a3
        clear e a1 hr
        go_enter Try.func55, Try.ntmps55
        go_wp2_with fail
        refine (H.out _).mono ?_
        rintro e w' ⟨rfl, rfl⟩
        go_wp2_with fail
        refine HC.out.mono ?_
        rintro e w' ⟨rfl, rfl⟩
        go_wp2_with fail
        go_ret
        exact ⟨by simp <;> omega, rfl⟩
      · have e : (!goodb n f n0) = true := by unfold goodb; rw [decide_eq_false fun h => a3 h.2.2]; rfl
        rw [e]
        have h1 : (n == n0) = false := by simpa using a3
        have h2 : ((n : Int) != (n0 : Int)) = true := by rw [bne_iff_ne]; omega
        clear e a1 a3 hr
        go_enter Try.func55, Try.ntmps55
        go_wp2_with fail
        refine (H.out _).mono ?_
        rintro e w' ⟨rfl, rfl⟩
        go_wp2_with fail
        refine HC.out.mono ?_
        rintro e w' ⟨rfl, rfl⟩
        go_wp2_with fail
        go_ret
        exact ⟨by first | rfl | (simp [h1, h2]), rfl⟩
    · have e : (!goodb n f n0) = true := by unfold goodb; rw [decide_eq_false fun h => a2 (hr.symm.trans h.2.1)]; rfl
      rw [e]
      have h2 : (r != 0) = true := by rw [bne_iff_ne]; exact a2
      clear e a1 a2 hr
      go_enter Try.func55, Try.ntmps55
      go_wp2_with fail
      refine (H.out _).mono ?_
      rintro e w' ⟨rfl, rfl⟩
      go_wp2_with fail
      refine HC.out.mono ?_
      rintro e w' ⟨rfl, rfl⟩
      go_wp2_with fail
      go_ret
      exact ⟨by first | rfl | (simp [h2]), rfl⟩
  · rw [decide_eq_false a1] at H
    have e : (!goodb n f n0) = true := by unfold goodb; rw [decide_eq_false fun h => a1 h.1]; rfl
    rw [e]
    clear e a1
    go_enter Try.func55, Try.ntmps55
    go_wp2_with fail
    refine (H.out _).mono ?_
    rintro e w' ⟨rfl, rfl⟩
    go_wp2_with fail
    go_ret
    exact ⟨rfl, rfl⟩
theorem good_any (K : Nat) (hK : K ≤ 1000) (hK0 : 0 < K) (oc : Nat → Option Addr) (nc cc : Nat → Nat) (fc : Nat → Nat → Int) (b cap : Nat) (w : World) (hb : b < w.heap.size) (hcell : ∀ c, c < K → w.cell? ⟨b, 0 + c, none⟩ = some (.slice (oc c) (nc c) (cc c))) (hL : ∀ c, c < K → Lz w (oc c) (nc c) (fc c)) :
    Calls Try.prog 33 #[.slice (some ⟨b, 0, none⟩) K cap] w fun e w' => e = .returned (.bool (allb K fun c => goodb (nc c) (fc c) (nc 0))) ∧ Below w.heap.size w w' := by
  have hB : Below w.heap.size w (w.alloc (.cells #[.slice (some ⟨b, 0, none⟩) K cap] 25)) := (Below.refl _ _).alloc (Nat.le_refl _) _
  have hcell' : ∀ c, c < K → (w.alloc (.cells #[.slice (some ⟨b, 0, none⟩) K cap] 25)).cell? ⟨b, 0 + c, none⟩ = some (.slice (oc c) (nc c) (cc c)) := fun c hc => (hB.cell (p := ⟨b, 0 + c, none⟩) hb).trans (hcell c hc)
  have H := Lib.hid (contains_good (.pointer (some ⟨w.heap.size, 0, none⟩)) K hK oc nc cc (fun c => !goodb (nc c) (fc c) (nc 0)) b 0 cap _ hcell' (fun c hc => good1_any (nc c) (nc 0) (fc c) (oc c) (oc 0) (cc c) (cc 0) w.heap.size b K cap hK0 _ ((hL c hc).below hB) (World.cell?_alloc_mark w _ 25 (0, 0) 0) (by simpa using hcell' 0 hK0)))
  have e := any_all K fun c => goodb (nc c) (fc c) (nc 0)
  obtain ⟨r, hr⟩ : ∃ r, anyb K (fun c => !goodb (nc c) (fc c) (nc 0)) = r := ⟨_, rfl⟩
  rw [hr] at H e
  rw [← e]
  have HB := Lib.hid hB
  clear e hr hcell hcell' hL hB
  go_enter Try.func33, Try.ntmps33
  go_wp2_with fail
  refine H.out.mono ?_
  rintro e w' ⟨rfl, rfl⟩
  cases r with
  | true =>
    go_wp2_with fail
    go_ret
    exact ⟨rfl, HB.out⟩
  | false =>
    go_wp2_with fail
    go_ret
    exact ⟨rfl, HB.out⟩
end Go.Proofs.Ytbkmcibibppjeaa
