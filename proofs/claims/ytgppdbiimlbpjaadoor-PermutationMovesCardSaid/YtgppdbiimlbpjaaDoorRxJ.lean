/- The specification's Text and Format. -/
import Derived.Test.YtgppdbiimlbpjaaDoorRxI
import Derived.WalkKit
import Derived.WalkSpells
import Derived.WalkLawsBesides
import Derived.Handy
import Derived.Deep.QuietTactic
import Derived.BigQuiet
import Derived.Outline
import Derived.Laws.BitsAllLaws
import Derived.IntWalk
import Derived.Lib.SmallJoins
import Derived.Lib.Hide
import Derived.Deep.DeepCutAuto
import Derived.LoopTactic
import Derived.Deep.RegionWith
import Derived.Laws.CopyOwn
import Derived.Maps.OwnOps
import Derived.Maps.OwnSet
import Derived.Laws.OwnMore
import Derived.Maps.AppendAt
import Derived.Test.YtgppdbiimlbpjaaDoorShelF
import Derived.RangeFuncNested
import Derived.RangeFuncBound
import Derived.RangeFuncCalls
import Derived.RangeFuncLeaves
import Derived.RangeFuncBox
import Derived.RangeFuncFrom
import Derived.Shelf.Abstract
import Derived.Shelf.RegionOpen
import Derived.OwnWalkIn
import Derived.TacticsInMore
import Derived.LoopNIn
import Derived.LoopIn
namespace Go.Proofs.YtgppdbiimlbpjaaDoor
set_option linter.unusedVariables false
set_option linter.unusedSimpArgs false
open Go.RowKit


/-- One cycle, after j steps: the text and the processes that are done. -/
def rin (a : Nat → Nat) (p : Nat) (t : ByteArray) (d : Nat) : Nat → ByteArray × Nat
  | 0 => (t ++ ({ data := #[40] } ++ dg p), d)
  | j + 1 => match rin a p t d j with | (u, e) => (u ++ ({ data := #[32] } ++ dg (itr a (j + 1) p)), e ||| 2 ^ itr a (j + 1) p)
/-- The steps of the cycle of p. -/
def cyl (n : Nat) (a : Nat → Nat) (p : Nat) : Nat := ((List.range n).find? fun j => itr a (j + 1) p == p).getD 0
def rout (n : Nat) (a : Nat → Nat) : Nat → ByteArray × Nat
  | 0 => (⟨#[]⟩, 0)
  | p + 1 => match rout n a p with | (t, d) => if d / 2 ^ p % 2 = 1 ∨ a p = p then (t, d) else match rin a p t d (cyl n a p) with | (u, e) => (u ++ { data := #[41] }, e)
def rtx (n : Nat) (a : Nat → Nat) : ByteArray := if (rout n a n).1.size = 0 then { data := #[40, 41] } else (rout n a n).1
theorem cyl_fin : ∀ n : Fin 6, ∀ l ∈ pl n.val, ∀ p, p < n.val → cyl n.val (fun_ l) p < n.val ∧ itr (fun_ l) (cyl n.val (fun_ l) p + 1) p = p ∧ ∀ j, j < cyl n.val (fun_ l) p → itr (fun_ l) (j + 1) p ≠ p := by decide +kernel
theorem txt_fin : ∀ n : Fin 6, ∀ l ∈ pl n.val, ∀ p, p ≤ n.val → (rout n.val (fun_ l) p).1.size ≤ 60 ∧ (rout n.val (fun_ l) p).2 < 32 := by decide +kernel
theorem rtx_fin : ∀ n : Fin 6, ∀ l ∈ pl n.val, rtx n.val (fun_ l) = ptx n.val (fun_ l) := by decide +kernel
theorem rin_size (a : Nat → Nat) (p : Nat) (t : ByteArray) (d : Nat) : ∀ j, (rin a p t d j).1.size = t.size + 2 + 2 * j
  | 0 => by
    show (t ++ ({ data := #[40] } ++ dg p)).size = _
    rw [ByteArray.size_append, ByteArray.size_append]
    rfl
  | j + 1 => by
    have ih := rin_size a p t d j
    show (((rin a p t d j).1) ++ ({ data := #[32] } ++ dg (itr a (j + 1) p))).size = _
    rw [ByteArray.size_append, ByteArray.size_append, ih]
    show t.size + 2 + 2 * j + 2 = _
    omega
theorem rin_lt (a : Nat → Nat) (p : Nat) (t : ByteArray) (d : Nat) (hd : d < 32) : ∀ j, (∀ i, i ≤ j → itr a i p < 5) → (rin a p t d j).2 < 32
  | 0, _ => hd
  | j + 1, h => by
    have ih := rin_lt a p t d hd j (fun i hi => h i (by omega))
    exact (or1_fin ⟨_, ih⟩ ⟨_, h (j + 1) (Nat.le_refl _)⟩).2.1
set_option maxHeartbeats 1000000 in
theorem digit_ok (p : Nat) (hp : p < 5) (w : World) : Calls Tryd.prog 77 #[.int .i64 (p : Int)] w fun e w' => e = .returned (.string (dg p)) ∧ w = w' := by
  obtain rfl | rfl | rfl | rfl | rfl : p = 0 ∨ p = 1 ∨ p = 2 ∨ p = 3 ∨ p = 4 := by omega
  all_goals
    go_enter Tryd.func77, Tryd.ntmps77
    go_wp2_with fail
    go_ret
    exact ⟨by kernel_rfl, rfl⟩
def lenS : Value → Nat
  | .string b => b.size
  | _ => 0
theorem rout_skip {n p : Nat} {a : Nat → Nat} {t : ByteArray} {d : Nat} (h : rout n a p = (t, d)) (hs : d / 2 ^ p % 2 = 1 ∨ a p = p) : rout n a (p + 1) = (t, d) := by
  show (match rout n a p with | (t, d) => if d / 2 ^ p % 2 = 1 ∨ a p = p then (t, d) else match rin a p t d (cyl n a p) with | (u, e) => (u ++ ({ data := #[41] } : ByteArray), e)) = _
  rw [h]
  show (if d / 2 ^ p % 2 = 1 ∨ a p = p then (t, d) else _) = _
  rw [if_pos hs]
theorem rout_go {n p : Nat} {a : Nat → Nat} {t : ByteArray} {d : Nat} (h : rout n a p = (t, d)) (hs : ¬ (d / 2 ^ p % 2 = 1 ∨ a p = p)) : rout n a (p + 1) = ((rin a p t d (cyl n a p)).1 ++ { data := #[41] }, (rin a p t d (cyl n a p)).2) := by
  show (match rout n a p with | (t, d) => if d / 2 ^ p % 2 = 1 ∨ a p = p then (t, d) else match rin a p t d (cyl n a p) with | (u, e) => (u ++ ({ data := #[41] } : ByteArray), e)) = _
  rw [h]
  show (if d / 2 ^ p % 2 = 1 ∨ a p = p then (t, d) else _) = _
  rw [if_neg hs]
set_option maxRecDepth 100000 in
set_option maxHeartbeats 4000000 in
theorem text_ok (n : Nat) (h1 : 1 ≤ n) (h5 : n ≤ 5) (l : List Nat) (hl : l ∈ pl n) (o : Option Addr) (cap : Nat) (w : World) (hL : Lz w o n (zf (fun_ l))) : Calls Tryd.prog 63 #[.slice o n cap] w fun e w' => e = .returned (.string (ptx n (fun_ l))) ∧ w = w' := by
  have HD := Lib.hid (fun q (hq : q < 5) => digit_ok q hq w)
  have HL := Lib.hid hL
  have hgd := (pl_good h1 h5 hl).2
  have HLt := Lib.hid hgd.perm.lt
  have HIt := Lib.hid (fun k i hi => itr_lt hgd.perm.lt k i hi)
  have HCy := Lib.hid (cyl_fin ⟨n, by omega⟩ l hl)
  have HTx := Lib.hid (txt_fin ⟨n, by omega⟩ l hl)
  have hfin : rtx n (fun_ l) = ptx n (fun_ l) := rtx_fin ⟨n, by omega⟩ l hl
  obtain ⟨Rf, hRf⟩ : ∃ x, ptx n (fun_ l) = x := ⟨_, rfl⟩
  rw [hRf] at hfin
  rw [hRf]
  have HFin := Lib.hid hfin
  clear hL hgd hfin hRf hl
  generalize fun_ l = a at *
  go_enter Tryd.func63, Tryd.ntmps63
  go_wp2_with fail
  go_loop [3, 4, 5] (fun s d j => ∃ (p : Nat) (t : ByteArray) (e : Nat), p ≤ n ∧ j = .int .i64 (p : Int) ∧ s = .string t ∧ d = .int .i64 (e : Int) ∧ rout n a p = (t, e)) (fun _ _ j => n - (intOf j).toNat)
  case atStart => exact ⟨0, ⟨#[]⟩, 0, by omega, by first | trivial | rfl, by first | trivial | rfl, by first | trivial | rfl, rfl⟩
  case round =>
    obtain ⟨p, t, d, hp, rfl, rfl, rfl, hr⟩ := hrel
    have hb := HTx.out p hp
    rw [hr] at hb
    obtain ⟨hts, hd32⟩ := hb
    change t.size ≤ 60 at hts
    change d < 32 at hd32
    by_cases hlt : p < n
    · have hp1 : (p : Int) < (n : Int) := by omega
      have hp5 : p < 5 := by omega
      obtain ⟨bl, ofs, rfl, hbl, hcl⟩ := HL.out (by omega)
      have c1 := hcl p hlt
      unfold zf at c1
      have han := and_fin ⟨d, hd32⟩ ⟨p, hp5⟩
      simp only at han
      by_cases hdn : d / 2 ^ p % 2 = 1
      · have HR := Lib.hid (rout_skip hr (.inl hdn))
        rw [hdn] at han
        have han' : bits .and .i64 ((d : Int) / (2 : Int) ^ p) 1 = 1 := han
        clear hr hdn han hcl c1
        go_wp2_with fail
        go_round
        case rel => exact ⟨p + 1, t, d, by omega, by go_num, rfl, rfl, HR.out⟩
        case measure => simp [intOf]; omega
      · have han' : bits .and .i64 ((d : Int) / (2 : Int) ^ p) 1 = 0 := by
          have e : d / 2 ^ p % 2 = 0 := by omega
          rw [e] at han
          exact han
        clear han
        by_cases hap : a p = p
        · have HR := Lib.hid (rout_skip hr (.inr hap))
          rw [hap] at c1
          clear hr hdn hcl hap
          go_wp2_with fail
          go_round
          case rel => exact ⟨p + 1, t, d, by omega, by go_num, rfl, rfl, HR.out⟩
          case measure => simp [intOf]; omega
        · have HR := Lib.hid (rout_go hr (fun h => h.elim hdn hap))
          have hcy := HCy.out p hlt
          change cyl n a p < n ∧ itr a (cyl n a p + 1) p = p ∧ ∀ j, j < cyl n a p → itr a (j + 1) p ≠ p at hcy
          obtain ⟨C, hC⟩ : ∃ C, cyl n a p = C := ⟨_, rfl⟩
          rw [hC] at HR hcy
          obtain ⟨hCn, hCe, hCj⟩ := hcy
          have HCe := Lib.hid hCe
          have HCj := Lib.hid hCj
          have hap1 := HLt.out p hlt
          have HA1 := Lib.hid (show itr a 1 p = a p from rfl)
          obtain ⟨x, hx⟩ : ∃ x, a p = x := ⟨_, rfl⟩
          rw [hx] at c1 hap hap1 HA1
          have g1 : (x == p) = false := by simpa using hap
          have g2 : ((x : Int) == (p : Int)) = false := by rw [beq_eq_false_iff_ne]; omega
          have hdp : (dg p).size = 1 := rfl
          have hn1 : ¬ 9223372036854775807 < 1 + (dg p).size := by omega
          have hn2 : ¬ 9223372036854775807 < t.size + (1 + (dg p).size) := by omega
          have HDp := Lib.hid (HD.out p hp5)
          have Hts := Lib.hid hts
          have Hd32 := Lib.hid hd32
          have HCl := Lib.hid hcl
          clear hr hdn hcl hap hC hCe hCj hx hdp hts hd32
          go_wp2_with fail
          refine HDp.out.mono ?_
          rintro e w' ⟨rfl, rfl⟩
          go_wp2_with fail
          go_loop [3, 4, 6] (fun s dd j => ∃ i : Nat, i ≤ C ∧ j = .int .i64 ((itr a (i + 1) p : Nat) : Int) ∧ s = .string (rin a p t d i).1 ∧ dd = .int .i64 (((rin a p t d i).2 : Nat) : Int)) (fun s _ _ => C - (lenS s - t.size - 2) / 2)
          case atStart => exact ⟨0, by omega, by rw [HA1.out], rfl, rfl⟩
          case round =>
            obtain ⟨i, hi, rfl, rfl, rfl⟩ := hrel
            have hsz := rin_size a p t d i
            have hts2 := Hts.out
            by_cases hic : i < C
            · have hne := HCj.out i hic
              have hit := HIt.out (i + 1) p hlt
              have hld := rin_lt a p t d Hd32.out i (fun k _ => by have := HIt.out k p hlt; omega)
              have c2 := HCl.out (itr a (i + 1) p) hit
              unfold zf at c2
              have hnx : a (itr a (i + 1) p) = itr a (i + 1 + 1) p := rfl
              have hrs : rin a p t d (i + 1) = ((rin a p t d i).1 ++ ({ data := #[32] } ++ dg (itr a (i + 1) p)), (rin a p t d i).2 ||| 2 ^ itr a (i + 1) p) := rfl
              obtain ⟨z, hz⟩ : ∃ z, itr a (i + 1 + 1) p = z := ⟨_, rfl⟩
              rw [hnx, hz] at c2
              have HNx := Lib.hid hz
              obtain ⟨y, hy⟩ : ∃ y, itr a (i + 1) p = y := ⟨_, rfl⟩
              rw [hy] at hne hit c2 hrs ⊢
              have or2 := or1_fin ⟨_, hld⟩ ⟨y, by omega⟩
              simp only at or2
              have HSi := Lib.hid (rin_size a p t d (i + 1))
              obtain ⟨u, hu⟩ : ∃ u, (rin a p t d i).1 = u := ⟨_, rfl⟩
              obtain ⟨v, hv⟩ : ∃ v, (rin a p t d i).2 = v := ⟨_, rfl⟩
              rw [hu, hv] at hrs
              rw [hv] at or2 hld
              rw [hu] at hsz
              rw [hu, hv]
              obtain ⟨m2, hm2⟩ : ∃ m, (2 : Nat) ^ y = m := ⟨_, rfl⟩
              rw [hm2] at or2 hrs
              obtain ⟨or3, _, or4⟩ := or2
              have HRs := Lib.hid hrs
              have g3 : (y == p) = false := by simpa using hne
              have g4 : ((y : Int) == (p : Int)) = false := by rw [beq_eq_false_iff_ne]; omega
              have g5 : ((y : Int) != (p : Int)) = true := by rw [bne_iff_ne]; omega
              have hdy : (dg y).size = 1 := rfl
              have hn3 : ¬ 9223372036854775807 < 1 + (dg y).size := by omega
              have hn4 : ¬ 9223372036854775807 < u.size + (1 + (dg y).size) := by omega
              have HDy := Lib.hid (HD.out y (by omega))
              have hy5 : (y : Int) < (n : Int) := by omega
              have Hus := Lib.hid hsz
              clear hne hnx hz hy hu hv hm2 hrs hdy hsz hts2 hit
              go_wp2_with fail
              refine HDy.out.mono ?_
              rintro e w' ⟨rfl, rfl⟩
              go_wp2_with fail
              go_round
              case rel => exact ⟨i + 1, by omega, by rw [HNx.out], by rw [HRs.out], by rw [HRs.out]⟩
              case measure =>
                have e1 := Hus.out
                have e2 : (u ++ ({ data := #[32] } ++ dg y)).size = u.size + 2 := by rw [ByteArray.size_append, ByteArray.size_append]; rfl
                have e3 : ({ data := #[32] } : ByteArray).size = 1 := rfl
                have e4 : (dg y).size = 1 := rfl
                simp [lenS]
                omega
            · have ei : i = C := by omega
              subst ei
              rw [HCe.out]
              obtain ⟨u, hu⟩ : ∃ u, (rin a p t d i).1 = u := ⟨_, rfl⟩
              obtain ⟨v, hv⟩ : ∃ v, (rin a p t d i).2 = v := ⟨_, rfl⟩
              rw [hu] at hsz
              rw [hu, hv] at HR
              rw [hu, hv]
              have hn5 : ¬ 9223372036854775807 < u.size + 1 := by omega
              clear hu hv hsz hts2 hic
              go_wp2_with fail
              go_round
              case rel => exact ⟨p + 1, _, _, by omega, by go_num, rfl, rfl, HR.out⟩
              case measure => simp [intOf]; omega
    · have e : p = n := by omega
      subst e
      have hfin := HFin.out
      unfold rtx at hfin
      rw [hr] at hfin
      change (if t.size = 0 then { data := #[40, 41] } else t : ByteArray) = Rf at hfin
      clear hr hlt hd32
      by_cases h0 : t.size = 0
      · rw [if_pos h0] at hfin
        have ht : t = ⟨#[]⟩ := by
          cases t with | mk x =>
          have : x = #[] := Array.eq_empty_of_size_eq_zero h0
          rw [this]
        subst ht
        subst hfin
        clear h0 hts
        go_wp2_with fail
        go_ret
        exact ⟨rfl, rfl⟩
      · rw [if_neg h0] at hfin
        subst hfin
        have e2 : t.toList ≠ [] := fun e => h0 (by rw [ByteArray.toList_eq] at e; have := congrArg List.length e; simpa using this)
        have e3 : (t.toList == []) = false := by simpa using e2
        clear h0 hts e2
        go_wp2_with fail
        go_ret
        exact ⟨rfl, rfl⟩

end Go.Proofs.YtgppdbiimlbpjaaDoor
