/- The operations of the bit vectors: one word. -/
import Derived.Test.YtbefkngeffpokaaDoorMmA
import Derived.Test.YtbefkngeffpokaaDoorMxA
import Derived.WalkKit
import Derived.WalkSpells
import Derived.WalkLawsBesides
import Derived.Handy
import Derived.Deep.QuietTactic
import Derived.BigQuiet
import Derived.Outline
import Derived.Laws.BitsAllLaws
import Derived.IntWalk
import Derived.Lib.SmallJoins
import Derived.Lib.Hide
import Derived.Deep.DeepCutAuto
import Derived.LoopTactic
import Derived.Deep.RegionWith
import Derived.Laws.CopyOwn
import Derived.Maps.OwnOps
import Derived.Maps.OwnSet
import Derived.Laws.OwnMore
import Derived.Maps.AppendAt
import Derived.RangeFuncNested
import Derived.RangeFuncBound
import Derived.RangeFuncCalls
import Derived.RangeFuncLeaves
import Derived.RangeFuncBox
import Derived.RangeFuncFrom
import Derived.Shelf.Abstract
import Derived.Shelf.RegionOpen
import Derived.OwnWalkIn
import Derived.TacticsInMore
import Derived.LoopNIn
import Derived.LoopIn
import Derived.Deep.RegionHeld3
import Derived.RegionTactic
import Derived.ChangeAlike
import Derived.Shelf.Spec.TrailingZeros
namespace Go.Proofs.YtbefkngeffpokaaDoor
set_option linter.unusedVariables false
set_option linter.unusedSimpArgs false
open Go.RowKit

/-- A bit vector of one word. -/
def Bx (w : World) (b x : Nat) : Prop := Box w b #[.int .u64 (x : Int)] 90
theorem Bx.below {w W : World} {b x B : Nat} (h : Bx w b x) (hb : Below B w W) (hB : b < B) : Bx W b x := Box.below h hb hB
theorem Bx.kept {w W : World} {b x : Nat} {pb : Option Nat} (h : Bx w b x) (hk : Kept pb w.heap.size w W) (hne : some b ≠ pb) : Bx W b x := (hk.block b (Box.lt h) hne).trans h
theorem Bx.set {w : World} {b x y : Nat} (h : Bx w b x) : Bx (w.setCell ⟨b, 0, none⟩ (.int .u64 (y : Int))) b y := Box.set h 0 (.int .u64 (y : Int))
theorem kept_dr {pb : Option Nat} {B : Nat} {w W : World} (h : Kept pb B w W) : Kept pb B w W.drew := ⟨h.os, h.tape, h.output, h.size, h.block⟩
theorem Kept.set {w : World} {b B : Nat} (i : Nat) (v : Value) : Kept (some b) B w (w.setCell ⟨b, i, none⟩ v) := ⟨rfl, rfl, rfl, by simp, fun k _ hk => Below.heap_setCell w ⟨b, i, none⟩ v k (fun e => hk (by rw [e]))⟩
theorem pow32 {i : Nat} (h : i < 32) : 2 ^ i ≤ 2147483648 := Nat.pow_le_pow_right (n := 2) (by omega) (show i ≤ 31 by omega)
theorem xor32 {x y : Nat} (hx : x < 4294967296) (hy : y < 4294967296) : x ^^^ y < 4294967296 := Nat.xor_lt_two_pow (n := 32) hx hy
theorem newbits_ok (n : Nat) (hn : n < 64) (w : World) : Calls Tryd.prog 46 #[.int .i64 (n : Int)] w fun e w' => e = .returned (.slice (some ⟨w.heap.size, 0, none⟩) 1 1) ∧ Bx w' w.heap.size 0 ∧ Below w.heap.size w w' := by
  have hq : (n : Int) / 64 = 0 := by omega
  have hmk : ∀ w : World, (Instr.makeSlice 68 (.int .i64 1) (.int .i64 1)).run Tryd.prog w = .ok (.slice (some ⟨w.heap.size, 0, none⟩) 1 1) (w.alloc (.cells #[.int .u64 0] 90)) := fun w => by kernel_rfl
  go_enter Tryd.func46, Tryd.ntmps46
  go_wp2_with fail
  go_ret
  exact ⟨rfl, Box.new w _ _, (Below.refl _ _).alloc (Nat.le_refl _) _⟩
theorem flip_ok (b x i : Nat) (hi : i < 32) (hx : x < 4294967296) (w : World) (hb : Bx w b x) : Calls Tryd.prog 58 #[.slice (some ⟨b, 0, none⟩) 1 1, .int .i64 (i : Int)] w fun e w' => e = .returned (.tuple #[]) ∧ Bx w' b (x ^^^ 2 ^ i) ∧ Kept (some b) w.heap.size w w' := by
  have hq : (i : Int) / 64 = 0 := by omega
  have hr : (i : Int) % 64 = (i : Int) := by omega
  have c1 := hb.cell 0
  have c2 := hb.open_ 0
  have Hb := Lib.hid hb
  have hp := pow32 hi
  have hbt : bits BinOp.xor IntKind.u64 (x : Int) (IntKind.u64.wrap (2 ^ i)) = ((x ^^^ 2 ^ i : Nat) : Int) := by
    have e : IntKind.u64.wrap ((2 : Int) ^ i) = ((2 ^ i : Nat) : Int) := by
      have e2 : ((2 : Int) ^ i) = ((2 ^ i : Nat) : Int) := by simp
      rw [e2, IntWalk.u64_in _ ⟨Int.natCast_nonneg _, by omega⟩]
    rw [e, u64_xor_nat _ _ (by omega) (by omega)]
  have Hbt := Lib.hid hbt
  clear hb hbt hp
  go_enter Tryd.func58, Tryd.ntmps58
  go_wp2_with fail
  go_region
  all_goals
    rw [Hbt.out]
    go_end0
    exact ⟨rfl, Hb.out.set, kept_dr (Kept.set 0 _)⟩
theorem has_ok (b x i : Nat) (hi : i < 32) (hx : x < 4294967296) (w : World) (hb : Bx w b x) : Calls Tryd.prog 59 #[.slice (some ⟨b, 0, none⟩) 1 1, .int .i64 (i : Int)] w fun e w' => e = .returned (.bool (x.testBit i)) ∧ w = w' := by
  have hq : (i : Int) / 64 = 0 := by omega
  have hr : (i : Int) % 64 = (i : Int) := by omega
  have c1 := hb.cell 0
  obtain ⟨r, hr2⟩ : ∃ r, x.testBit i = r := ⟨_, rfl⟩
  have ht : x.testBit i = decide (x / 2 ^ i % 2 = 1) := Nat.testBit_eq_decide_div_mod_eq
  have hbt : bits BinOp.and IntKind.u64 ((x : Int) / 2 ^ i) 1 = ((x / 2 ^ i % 2 : Nat) : Int) := by
    have e : (x : Int) / 2 ^ i = ((x / 2 ^ i : Nat) : Int) := by simp
    have hle : x / 2 ^ i ≤ x := Nat.div_le_self _ _
    have e1 : (1 : Int) = ((1 : Nat) : Int) := rfl
    rw [e, e1, u64_and_nat _ _ (by omega) (by omega), Nat.and_one_is_mod]
  rw [hr2]
  cases r with
  | true =>
    have h1 : x / 2 ^ i % 2 = 1 := by rw [hr2] at ht; exact of_decide_eq_true ht.symm
    rw [h1] at hbt
    have hbt' : bits BinOp.and IntKind.u64 ((x : Int) / 2 ^ i) 1 = 1 := hbt
    clear hb ht hr2 h1 hbt
    go_enter Tryd.func59, Tryd.ntmps59
    go_wp2_with fail
    go_ret
    exact ⟨rfl, rfl⟩
  | false =>
    have h1 : x / 2 ^ i % 2 = 0 := by rw [hr2] at ht; have := of_decide_eq_false ht.symm; omega
    rw [h1] at hbt
    have hbt' : bits BinOp.and IntKind.u64 ((x : Int) / 2 ^ i) 1 = 0 := hbt
    clear hb ht hr2 h1 hbt
    go_enter Tryd.func59, Tryd.ntmps59
    go_wp2_with fail
    go_ret
    exact ⟨rfl, rfl⟩
/-- A list of numbers as the cells have them. -/
def lz (l : List Nat) : Nat → Int := fun i => ((l.getD i 0 : Nat) : Int)
theorem take_snoc {l : List Nat} {k : Nat} (h : k < l.length) : l.take (k + 1) = l.take k ++ [l.getD k 0] := by
  rw [List.take_succ_eq_append_getElem h, List.getD_eq_getElem?_getD, List.getElem?_eq_getElem h]
  rfl
theorem flips_lt : ∀ (l : List Nat) (x : Nat), x < 4294967296 → (∀ i, i ∈ l → i < 32) → flips x l < 4294967296
  | [], x, hx, _ => hx
  | i :: l, x, hx, h => by
    rw [flips_cons]
    have := pow32 (h i List.mem_cons_self)
    exact flips_lt l _ (xor32 hx (by omega)) fun j hj => h j (List.mem_cons_of_mem _ hj)
set_option maxHeartbeats 1000000 in
theorem flipall_ok (b x : Nat) (hx : x < 4294967296) (l : List Nat) (hl : ∀ i, i ∈ l → i < 32) (hlen : l.length ≤ 1000000) (o : Option Addr) (cap : Nat) (w : World) (hb : Bx w b x) (hL : Lz w o l.length (lz l)) (hne : 0 < l.length → ∀ g off, o = some ⟨g, off, none⟩ → g ≠ b) :
    Calls Tryd.prog 47 #[.slice (some ⟨b, 0, none⟩) 1 1, .slice o l.length cap] w fun e w' => e = .returned (.tuple #[]) ∧ Bx w' b (flips x l) ∧ Kept (some b) w.heap.size w w' := by
  have HL := Lib.hid hL
  have HNe := Lib.hid hne
  have HLt := Lib.hid hl
  have Hb := Lib.hid hb
  obtain ⟨m, hm⟩ : ∃ m, l.length = m := ⟨_, rfl⟩
  rw [hm] at HL HNe hlen ⊢
  have Hm := Lib.hid hm
  clear hL hne hl hb hm
  go_enter Tryd.func47, Tryd.ntmps47
  go_wp2_with fail
  go_loopw [8] (fun j wr => ∃ k : Nat, k ≤ m ∧ j = .int .i64 (k : Int) ∧ Bx wr b (flips x (l.take k)) ∧ Kept (some b) w.heap.size w wr) (fun j _ => m - (intOf j).toNat)
  case atStart => exact ⟨0, by omega, by first | trivial | rfl, Hb.out, Kept.refl _ _ _⟩
  case round =>
    obtain ⟨k, hk, rfl, hbx, hke⟩ := hrel
    have HBx := Lib.hid hbx
    have HKe := Lib.hid hke
    by_cases hlt : k < m
    · have hk1 : (k : Int) < (m : Int) := by omega
      obtain ⟨g, off, rfl, hg, hc⟩ := hke.lz HL.out (fun g off e h => HNe.out (by omega) g off e (Option.some.inj h)) (by omega)
      have c1 := hc k hlt
      have hmem : l.getD k 0 ∈ l := by
        rw [List.getD_eq_getElem?_getD, List.getElem?_eq_getElem (by have := Hm.out; omega)]
        exact List.getElem_mem _
      have hi := HLt.out _ hmem
      have hts := take_snoc (l := l) (k := k) (by have := Hm.out; omega)
      have hfl := flips_lt (l.take k) x hx (fun i hi => HLt.out i (List.mem_of_mem_take hi))
      unfold lz at c1
      obtain ⟨i, hi2⟩ : ∃ i, l.getD k 0 = i := ⟨_, rfl⟩
      rw [hi2] at c1 hi hts
      have HF := Lib.hid (flip_ok b (flips x (l.take k)) i hi hfl wr hbx)
      have HTs := Lib.hid hts
      clear hbx hke hc hmem hts hfl hi2
      go_wp2_with fail
      refine HF.out.mono ?_
      rintro e w1 ⟨rfl, hb1, hk1'⟩
      have HB1 := Lib.hid hb1
      have HK1 := Lib.hid (HKe.out.trans (hk1'.le HKe.out.size))
      clear hb1 hk1'
      go_wp2_with fail
      go_roundw
      case rel => exact ⟨k + 1, by omega, by go_num, by rw [HTs.out, flips_snoc]; exact HB1.out, HK1.out⟩
      case measure => simp [intOf]; omega
    · have e : k = m := by omega
      subst e
      have htk : l.take k = l := by rw [← Hm.out, List.take_length]
      rw [htk] at HBx
      clear hbx hke hlt htk
      go_wp2_with fail
      go_end0
      exact ⟨rfl, HBx.out, HKe.out⟩
set_option maxHeartbeats 1000000 in
theorem clear_ok (b x : Nat) (w : World) (hb : Bx w b x) : Calls Tryd.prog 52 #[.slice (some ⟨b, 0, none⟩) 1 1] w fun e w' => e = .returned (.tuple #[]) ∧ Bx w' b 0 ∧ Kept (some b) w.heap.size w w' := by
  have Hb := Lib.hid hb
  clear hb
  go_enter Tryd.func52, Tryd.ntmps52
  go_wp2_with fail
  go_loopw [5] (fun j wr => ∃ k : Nat, k ≤ 1 ∧ j = .int .i64 (k : Int) ∧ Bx wr b (if k = 0 then x else 0) ∧ Kept (some b) w.heap.size w wr) (fun j _ => 1 - (intOf j).toNat)
  case atStart => exact ⟨0, by omega, by first | trivial | rfl, Hb.out, Kept.refl _ _ _⟩
  case round =>
    obtain ⟨k, hk, rfl, hbx, hke⟩ := hrel
    have HBx := Lib.hid hbx
    have HKe := Lib.hid hke
    by_cases hlt : k < 1
    · have hk0 : k = 0 := by omega
      have c1 := hbx.cell k
      have c2 := hbx.open_ k
      have c0 : (#[Value.int .u64 (((if k = 0 then x else 0 : Nat)) : Int)] : Array Value)[k]? = some (.int .u64 (x : Int)) := by subst hk0; rfl
      rw [c0] at c1
      have hk1 : (k : Int) < 1 := by omega
      have HK0 := Lib.hid hk0
      clear hbx hke c0 hk0
      go_wp2_with fail
      go_roundw
      case rel =>
        refine ⟨k + 1, by omega, by go_num, ?_, HKe.out.trans (Kept.set _ _)⟩
        have h0 := HK0.out
        subst h0
        exact HBx.out.set
      case measure => simp [intOf]; omega
    · have e : k = 1 := by omega
      subst e
      clear hbx hke hlt
      go_wp2_with fail
      go_end0
      exact ⟨rfl, HBx.out, HKe.out⟩
set_option maxHeartbeats 1000000 in
theorem add_ok (b x g y : Nat) (hx : x < 4294967296) (hy : y < 4294967296) (hgb : g ≠ b) (w : World) (hb : Bx w b x) (hg : Bx w g y) : Calls Tryd.prog 68 #[.slice (some ⟨b, 0, none⟩) 1 1, .slice (some ⟨g, 0, none⟩) 1 1] w fun e w' => e = .returned (.tuple #[]) ∧ Bx w' b (x ^^^ y) ∧ Kept (some b) w.heap.size w w' := by
  have hbt : bits BinOp.xor IntKind.u64 (x : Int) (y : Int) = ((x ^^^ y : Nat) : Int) := u64_xor_nat _ _ (by omega) (by omega)
  have Hbt := Lib.hid hbt
  have Hb := Lib.hid hb
  have Hg := Lib.hid hg
  clear hb hg hbt
  go_enter Tryd.func68, Tryd.ntmps68
  go_wp2_with fail
  go_loopw [8] (fun j wr => ∃ k : Nat, k ≤ 1 ∧ j = .int .i64 (k : Int) ∧ Bx wr b (if k = 0 then x else x ^^^ y) ∧ Kept (some b) w.heap.size w wr) (fun j _ => 1 - (intOf j).toNat)
  case atStart => exact ⟨0, by omega, by first | trivial | rfl, Hb.out, Kept.refl _ _ _⟩
  case round =>
    obtain ⟨k, hk, rfl, hbx, hke⟩ := hrel
    have HBx := Lib.hid hbx
    have HKe := Lib.hid hke
    by_cases hlt : k < 1
    · have hk0 : k = 0 := by omega
      subst hk0
      have c1 := hbx.cell 0
      have c2 := hbx.open_ 0
      have c3 := (Hg.out.kept hke (fun e => hgb (Option.some.inj e))).cell 0
      clear hbx hke
      go_wp2_with fail
      refine ⟨⟨1, by omega, rfl, ?_, ?_⟩, by simp [intOf]⟩
      · rw [Hbt.out]
        exact HBx.out.set
      · exact HKe.out.trans (Kept.set _ _)
    · have e : k = 1 := by omega
      subst e
      clear hbx hke hlt
      go_wp2_with fail
      go_end0
      exact ⟨rfl, HBx.out, HKe.out⟩

end Go.Proofs.YtbefkngeffpokaaDoor
