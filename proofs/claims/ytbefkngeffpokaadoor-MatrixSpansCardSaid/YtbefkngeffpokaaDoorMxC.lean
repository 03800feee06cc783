/- The first position of a bit vector from a given one on; parity; the list of positions. -/
import Derived.Test.YtbefkngeffpokaaDoorMxB
import Derived.WalkKit
import Derived.WalkSpells
import Derived.WalkLawsBesides
import Derived.Handy
import Derived.Deep.QuietTactic
import Derived.BigQuiet
import Derived.Outline
import Derived.Laws.BitsAllLaws
import Derived.IntWalk
import Derived.Lib.SmallJoins
import Derived.Lib.Hide
import Derived.Deep.DeepCutAuto
import Derived.LoopTactic
import Derived.Deep.RegionWith
import Derived.Laws.CopyOwn
import Derived.Maps.OwnOps
import Derived.Maps.OwnSet
import Derived.Laws.OwnMore
import Derived.Maps.AppendAt
import Derived.RangeFuncNested
import Derived.RangeFuncBound
import Derived.RangeFuncCalls
import Derived.RangeFuncLeaves
import Derived.RangeFuncBox
import Derived.RangeFuncFrom
import Derived.Shelf.Abstract
import Derived.Shelf.RegionOpen
import Derived.OwnWalkIn
import Derived.TacticsInMore
import Derived.LoopNIn
import Derived.LoopIn
import Derived.Deep.RegionHeld3
import Derived.RegionTactic
import Derived.ChangeAlike
import Derived.Shelf.Spec.TrailingZeros
namespace Go.Proofs.YtbefkngeffpokaaDoor
set_option linter.unusedVariables false
set_option linter.unusedSimpArgs false
open Go.RowKit

/-- The table of the library is there. -/
def Tb (w : World) : Prop := 1 < w.heap.size ∧ TabAt 0 Lib.deBruijn64tab w
theorem Tb.below {w W : World} {B : Nat} (h : Tb w) (hb : Below B w W) (hB : 1 < B) : Tb W := ⟨Nat.lt_of_lt_of_le h.1 hb.size, fun j hj => (hb.cell (p := ⟨0, j, none⟩) (by show 0 < B; omega)).trans (h.2 j hj)⟩
theorem Tb.here {w W : World} (h : Tb w) (hb : Below w.heap.size w W) : Tb W := h.below hb h.1
theorem Tb.kept {w W : World} {b : Nat} (h : Tb w) (hk : Kept (some b) w.heap.size w W) (hb : 1 ≤ b) : Tb W := ⟨Nat.lt_of_lt_of_le h.1 hk.size, fun j hj => (World.cell?_of_block (w := w) (a := ⟨0, j, none⟩) (hk.block 0 (by have := h.1; omega) (fun e => by have := Option.some.inj e; omega))).trans (h.2 j hj)⟩
theorem ctz_ld {x : Nat} (h0 : x ≠ 0) (h : x < 18446744073709551616) : Ld x (Lib.ctz 64 x) ∧ Lib.ctz 64 x < 64 := by
  obtain ⟨m, h1, h2⟩ := Lib.ctzFrom_spec 64 x (by omega) h
  have e : Lib.ctz 64 x = Lib.ctzFrom 64 x := by unfold Lib.ctz; rw [if_neg h0]
  rw [e]
  obtain ⟨k, hk⟩ : ∃ k, Lib.ctzFrom 64 x = k := ⟨_, rfl⟩
  rw [hk] at h1 h2 ⊢
  refine ⟨⟨?_, fun q hq => ?_⟩, h2⟩
  · rw [h1, Nat.testBit_two_pow_mul, Nat.sub_self]
    simp
  · rw [h1, Nat.testBit_two_pow_mul, decide_eq_false (by omega), Bool.false_and]
theorem tz_core (x k idx : Nat) (w : World) (hx0 : ((x : Int) == 0) = false)
    (key : IntKind.u64.wrap (bits BinOp.and IntKind.u64 (x : Int) (IntKind.u64.wrap (-(x : Int))) * 285870213051353865) / 288230376151711744 = (idx : Int))
    (hi : idx < 64) (hk : k < 64) (hcell : w.cell? ⟨0, idx, none⟩ = some (.int .u8 k)) :
    Calls Tryd.prog 72 #[.int .u64 x] w fun e w' => e = .returned (.int .i64 k) ∧ w = w' := by
  go_enter Tryd.func72, Tryd.ntmps72
  go_wp2_with (simp only [key])
  go_ret
  exact ⟨rfl, rfl⟩
theorem tz_ok (x : Nat) (h0 : x ≠ 0) (hx : x < 18446744073709551616) (w : World) (hT : Tb w) : Calls Tryd.prog 72 #[.int .u64 (x : Int)] w fun e w' => e = .returned (.int .i64 ((Lib.ctz 64 x : Nat) : Int)) ∧ w = w' := by
  obtain ⟨hlow, hk⟩ := Lib.lowest_bit 64 x h0 hx
  obtain ⟨hi, htab⟩ := Lib.deBruijn64_at _ hk
  have hcell := hT.2 _ hi
  rw [htab] at hcell
  exact tz_core x _ _ w (by rw [beq_eq_false_iff_ne]; exact Int.natCast_ne_zero.2 h0) (tz64_key x _ hx h0 hlow) hi hk hcell
/-- The positions from f on. -/
def hi32 (x f : Nat) : Nat := x &&& (18446744073709551616 - 2 ^ f)
theorem high_fin : ∀ f : Fin 33, ∀ q : Fin 64, (18446744073709551616 - 2 ^ f.val).testBit q.val = decide (f.val ≤ q.val) := by decide +kernel
theorem shl_fin : ∀ f : Fin 33, IntKind.u64.wrap (18446744073709551615 * (2 : Int) ^ f.val) = ((18446744073709551616 - 2 ^ f.val : Nat) : Int) := by decide +kernel
theorem hi_bit {x f q : Nat} (hx : x < 4294967296) (hf : f ≤ 32) : (hi32 x f).testBit q = (x.testBit q && decide (f ≤ q)) := by
  unfold hi32
  rw [Nat.testBit_and]
  by_cases hq : q < 64
  · rw [high_fin ⟨f, by omega⟩ ⟨q, hq⟩]
  · have h32 : x < 2 ^ q := Nat.lt_of_lt_of_le hx (by
      have := Nat.pow_le_pow_right (n := 2) (by omega) (show 32 ≤ q by omega)
      omega)
    rw [Nat.testBit_lt_two_pow h32, Bool.false_and, Bool.false_and]
theorem hi_lt {x f : Nat} (hx : x < 4294967296) : hi32 x f < 4294967296 := Nat.lt_of_le_of_lt Nat.and_le_left hx
theorem hi_word {x f : Nat} (hx : x < 4294967296) : bits BinOp.and IntKind.u64 (x : Int) ((18446744073709551616 - 2 ^ f : Nat) : Int) = ((hi32 x f : Nat) : Int) := by
  rw [u64_and_nat _ _ (by omega) (by have := Nat.two_pow_pos f; omega)]
  rfl
set_option maxHeartbeats 1000000 in
theorem first_none (b x f : Nat) (hx : x < 4294967296) (hf : f ≤ 32) (hno : ∀ q, f ≤ q → x.testBit q = false) (w : World) (hb : Bx w b x) :
    Calls Tryd.prog 63 #[.slice (some ⟨b, 0, none⟩) 1 1, .int .i64 (f : Int)] w fun e w' => e = .returned (.int .i64 (-1)) ∧ w = w' := by
  have h0 : hi32 x f = 0 := by
    apply Nat.eq_of_testBit_eq
    intro q
    rw [hi_bit hx hf, Nat.zero_testBit]
    by_cases h : f ≤ q
    · rw [hno q h]; rfl
    · rw [decide_eq_false h, Bool.and_false]
  have hq : (f : Int) / 64 = 0 := by omega
  have hr : (f : Int) % 64 = (f : Int) := by omega
  have hs := shl_fin ⟨f, by omega⟩
  simp only at hs
  have hbt := hi_word (f := f) hx
  rw [h0] at hbt
  have c1 := hb.cell 0
  obtain ⟨z, hz⟩ : ∃ z, 18446744073709551616 - 2 ^ f = z := ⟨_, rfl⟩
  rw [hz] at hs hbt
  have hbt' : bits BinOp.and IntKind.u64 (x : Int) (z : Int) = 0 := hbt
  clear hz h0 hno hb hbt
  go_enter Tryd.func63, Tryd.ntmps63
  go_wp2_with fail
  go_loop [5] (fun j => ∃ k : Nat, k ≤ 1 ∧ j = .int .i64 (k : Int)) (fun j => 1 - (intOf j).toNat)
  case atStart => exact ⟨0, by omega, by first | trivial | rfl⟩
  case round =>
    obtain ⟨k, hk, rfl⟩ := hrel
    obtain rfl | rfl : k = 0 ∨ k = 1 := by omega
    · go_wp2_with fail
      exact ⟨⟨1, by omega, rfl⟩, by simp [intOf]⟩
    · go_wp2_with fail
      go_ret
      exact ⟨rfl, rfl⟩
set_option maxHeartbeats 1000000 in
theorem first_some (b x f p : Nat) (hx : x < 4294967296) (hfp : f ≤ p) (hp : x.testBit p = true) (hlow : ∀ q, f ≤ q → q < p → x.testBit q = false) (w : World) (hb : Bx w b x) (hT : Tb w) :
    Calls Tryd.prog 63 #[.slice (some ⟨b, 0, none⟩) 1 1, .int .i64 (f : Int)] w fun e w' => e = .returned (.int .i64 (p : Int)) ∧ w = w' := by
  have hp32 : p < 32 := by
    rcases Nat.lt_or_ge p 32 with h | h
    · exact h
    · have h32 : x < 2 ^ p := Nat.lt_of_lt_of_le hx (Nat.pow_le_pow_right (n := 2) (by omega) h)
      rw [Nat.testBit_lt_two_pow h32] at hp; cases hp
  have hf : f ≤ 32 := by omega
  have hld : Ld (hi32 x f) p := ⟨by rw [hi_bit hx hf, hp, decide_eq_true hfp]; rfl, fun q hq => by
    rw [hi_bit hx hf]
    by_cases h : f ≤ q
    · rw [hlow q h hq]; rfl
    · rw [decide_eq_false h, Bool.and_false]⟩
  have hne := hld.ne
  have hlt := hi_lt (f := f) hx
  have hc := ctz_ld hne (by omega)
  have hpe : Lib.ctz 64 (hi32 x f) = p := hc.1.uniq hld
  have htz := tz_ok (hi32 x f) hne (by omega) w hT
  rw [hpe] at htz
  have hq : (f : Int) / 64 = 0 := by omega
  have hr : (f : Int) % 64 = (f : Int) := by omega
  have hs := shl_fin ⟨f, by omega⟩
  simp only at hs
  have hbt := hi_word (f := f) hx
  have c1 := hb.cell 0
  obtain ⟨z, hz⟩ : ∃ z, 18446744073709551616 - 2 ^ f = z := ⟨_, rfl⟩
  obtain ⟨y, hy⟩ : ∃ y, hi32 x f = y := ⟨_, rfl⟩
  rw [hz] at hs hbt
  rw [hy] at hbt htz hne
  have g1 : ((y : Int) != 0) = true := by rw [bne_iff_ne]; exact Int.natCast_ne_zero.2 hne
  have g2 : ((y : Int) == 0) = false := by rw [beq_eq_false_iff_ne]; exact Int.natCast_ne_zero.2 hne
  have HTz := Lib.hid htz
  clear hz hy hb hne hlt hc hpe htz hld hlow hp hT
  go_enter Tryd.func63, Tryd.ntmps63
  go_wp2_with fail
  go_loop [5] (fun j => ∃ k : Nat, k ≤ 0 ∧ j = .int .i64 (k : Int)) (fun j => 1 - (intOf j).toNat)
  case atStart => exact ⟨0, by omega, by first | trivial | rfl⟩
  case round =>
    obtain ⟨k, hk, rfl⟩ := hrel
    obtain rfl : k = 0 := by omega
    go_wp2_with fail
    refine HTz.out.mono ?_
    rintro e w' ⟨rfl, rfl⟩
    go_wp2_with fail
    go_ret
    exact ⟨rfl, rfl⟩
/-! ### parity -/
theorem Lz.take {w : World} {o : Option Addr} {n m : Nat} {f : Nat → Int} (h : Lz w o n f) (hm : m ≤ n) : Lz w o m f := fun hn => by
  obtain ⟨b, off, e, h1, h2⟩ := h (by omega)
  exact ⟨b, off, e, h1, fun i hi => h2 i (by omega)⟩
set_option maxHeartbeats 1000000 in
theorem odd_ok (b x : Nat) (hx : x < 4294967296) (l : List Nat) (hl : ∀ i, i ∈ l → i < 32) (hlen : l.length ≤ 1000000) (o : Option Addr) (cap : Nat) (w : World) (hb : Bx w b x) (hL : Lz w o l.length (lz l)) :
    Calls Tryd.prog 48 #[.slice (some ⟨b, 0, none⟩) 1 1, .slice o l.length cap] w fun e w' => e = .returned (.bool (odl x l)) ∧ w = w' := by
  have HL := Lib.hid hL
  have HLt := Lib.hid hl
  have Hb := Lib.hid hb
  obtain ⟨m, hm⟩ : ∃ m, l.length = m := ⟨_, rfl⟩
  rw [hm] at HL hlen ⊢
  have Hm := Lib.hid hm
  clear hL hl hb hm
  go_enter Tryd.func48, Tryd.ntmps48
  go_wp2_with fail
  go_loop [5, 10] (fun v j => ∃ k : Nat, k ≤ m ∧ j = .int .i64 (k : Int) ∧ v = .bool (odl x (l.take k))) (fun _ j => m - (intOf j).toNat)
  case atStart => exact ⟨0, by omega, by first | trivial | rfl, rfl⟩
  case round =>
    obtain ⟨k, hk, rfl, rfl⟩ := hrel
    by_cases hlt : k < m
    · have hk1 : (k : Int) < (m : Int) := by omega
      obtain ⟨g, off, rfl, hg, hc⟩ := HL.out (by omega)
      have c1 := hc k hlt
      have hmem : l.getD k 0 ∈ l := by
        rw [List.getD_eq_getElem?_getD, List.getElem?_eq_getElem (by have := Hm.out; omega)]
        exact List.getElem_mem _
      have hi := HLt.out _ hmem
      have hts := take_snoc (l := l) (k := k) (by have := Hm.out; omega)
      unfold lz at c1
      obtain ⟨i, hi2⟩ : ∃ i, l.getD k 0 = i := ⟨_, rfl⟩
      rw [hi2] at c1 hi hts
      have HF := Lib.hid (has_ok b x i hi hx w Hb.out)
      have hod := odl_snoc x i (l.take k)
      rw [← hts] at hod
      have HOd := Lib.hid hod
      obtain ⟨p, hp⟩ : ∃ p, odl x (l.take k) = p := ⟨_, rfl⟩
      obtain ⟨q, hq⟩ : ∃ q, x.testBit i = q := ⟨_, rfl⟩
      rw [hp, hq] at HOd
      rw [hq] at HF
      rw [hp]
      clear hc hmem hts hi2 hod hp hq
      go_wp2_with fail
      refine HF.out.mono ?_
      rintro e w1 ⟨rfl, rfl⟩
      go_wp2_with fail
      go_round
      case rel => exact ⟨k + 1, by omega, by go_num, by rw [HOd.out]; cases p <;> cases q <;> rfl⟩
      case measure => simp [intOf]; omega
    · have e : k = m := by omega
      subst e
      have htk : l.take k = l := by rw [← Hm.out, List.take_length]
      rw [htk]
      clear hlt htk
      go_wp2_with fail
      go_ret
      exact ⟨rfl, rfl⟩

end Go.Proofs.YtbefkngeffpokaaDoor
