/- Parse of the specification, for every text. -/
import Derived.Test.YtacnhklhimogkaaDoorTxA
import Derived.Deep.DeepCutAuto
import Derived.LoopTactic
import Derived.Test.YtacnhklhimogkaaDoorGcB
import Derived.Test.YtacnhklhimogkaaDoorGrN
import Derived.Test.YtacnhklhimogkaaDoorPmA
import Derived.Test.YtacnhklhimogkaaDoorPmM
import Derived.Test.YtacnhklhimogkaaDoorPmD
import Derived.Test.YtacnhklhimogkaaDoorGrR
import Derived.Test.YtacnhklhimogkaaDoorTb
import Derived.LoopTactic
import Derived.Deep.RegionWith
import Derived.WalkKit
import Derived.WalkSpells
import Derived.WalkLawsBesides
import Derived.Handy
import Derived.Deep.QuietTactic
import Derived.BigQuiet
import Derived.Outline
import Derived.Laws.BitsAllLaws
import Derived.IntWalk
import Derived.Lib.SmallJoins
import Derived.Lib.Hide
namespace Go.Proofs.YtacnhklhimogkaaDoor
set_option linter.unusedVariables false
set_option linter.unusedSimpArgs false
open Go.RowKit

/-- What the specification's Parse answers. -/
def PRes (s : ByteArray) (e : Ending) : Prop := (∃ n h, IsT s n h ∧ e = .returned (.tuple #[gv n h, .int .i64 0])) ∨ ((¬ ∃ n h, IsT s n h) ∧ e = .returned (.tuple #[zg, .int .i64 4]))
theorem scan_no {s : ByteArray} (h : scan s.data.toList = none) : ¬ ∃ n h, IsT s n h := by
  rintro ⟨n, k, h1, _⟩
  rw [h] at h1; cases h1
theorem upd_lt {h : Nat → Nat} (hh : ∀ p, h p < 32) (p : Nat) {v : Nat} (hv : v < 32) : ∀ i, upd h p v i < 32 := by
  intro i; unfold upd; split
  · exact hv
  · exact hh i

set_option maxRecDepth 100000 in
set_option maxHeartbeats 8000000 in
theorem rparse_any (s : ByteArray) (hs : s.size < 4294967281) (w : World) :
    Calls Tryd.prog 30 #[.string s] w fun e w' => PRes s e ∧ Below w.heap.size w w' := by
  go_enter Tryd.func30, Tryd.ntmps30
  go_wp2_with fail
  obtain ⟨W, hW⟩ : ∃ W, (w.alloc (.cells #[.int .i64 0, .int .i64 0, .int .i64 0, .int .i64 0, .int .i64 0, .int .i64 0] 24)).alloc (.cells #[.int .i64 1, .int .i64 0, .int .i64 0, .int .i64 0, .int .i64 0, .int .i64 0] 24) = W := ⟨_, rfl⟩
  rw [hW]
  have XZ : Box W w.heap.size #[.int .i64 0, .int .i64 0, .int .i64 0, .int .i64 0, .int .i64 0, .int .i64 0] 24 := hW ▸ (Box.new w _ _).alloc _
  have XG : Box W (w.heap.size + 1) #[.int .i64 ((1 : Nat) : Int), .int .i64 (((fun _ => 0 : Nat → Nat)) 0 : Int), .int .i64 (((fun _ => 0 : Nat → Nat)) 1 : Int), .int .i64 (((fun _ => 0 : Nat → Nat)) 2 : Int), .int .i64 (((fun _ => 0 : Nat → Nat)) 3 : Int), .int .i64 (((fun _ => 0 : Nat → Nat)) 4 : Int)] 24 := hW ▸ Box.at_ (by simp) _ _
  have B0 : Below w.heap.size w W := hW ▸ ((Below.refl _ _).alloc (Nat.le_refl _) _).alloc (by simp) _
  clear hW
  go_loopw [5] (fun j wr => ∃ (i n : Nat) (h : Nat → Nat), i ≤ s.size ∧ j = .int .i64 i ∧ scan (s.data.toList.take i) = some (n + 1, h) ∧ n + 1 ≤ 5 ∧ (∀ p, h p < 32) ∧ Below w.heap.size w wr ∧ Box wr w.heap.size #[.int .i64 0, .int .i64 0, .int .i64 0, .int .i64 0, .int .i64 0, .int .i64 0] 24 ∧ Box wr (w.heap.size + 1) #[.int .i64 (((n + 1 : Nat)) : Int), .int .i64 (h 0 : Int), .int .i64 (h 1 : Int), .int .i64 (h 2 : Int), .int .i64 (h 3 : Int), .int .i64 (h 4 : Int)] 24) (fun j _ => s.size - (intOf j).toNat)
  case atStart => exact ⟨0, 0, fun _ => 0, by omega, rfl, rfl, by omega, fun _ => Nat.zero_lt_succ _, B0, XZ, XG⟩
  case round =>
    clear XZ XG B0
    obtain ⟨i, n, h, hi, rfl, hsc, hn5, hlt32, hB, hZ, hX⟩ := hrel
    have HB := Lib.hid hB
    have HZ := Lib.hid hZ
    have HX := Lib.hid hX
    have Hsc := Lib.hid hsc
    have H32 := Lib.hid hlt32
    clear hB hZ hX hsc hlt32
    by_cases hlt : i < s.size
    · have hsl : s.data.toList.length = s.size := Array.length_toList
      have hget : s.data.toList[i]? = some s[i] := by rw [List.getElem?_eq_getElem (by omega)]; rfl
      have hst := scan_take hget
      rw [Hsc.out] at hst
      have hb8 : s[i].toNat < 256 := s[i].toNat_lt
      obtain ⟨b, hb⟩ : ∃ b, s[i] = b := ⟨_, rfl⟩
      rw [hb] at hst hb8
      have Hst := Lib.hid hst
      have hbs : (s[i].toNat : Int) = (b.toNat : Int) := by rw [hb]
      obtain ⟨q, hq⟩ : ∃ q, b.toNat = q := ⟨_, rfl⟩
      rw [hq] at hbs hb8
      have Hq := Lib.hid hq
      clear hst hb hq hget
      by_cases hsp : q = 32
      · obtain ⟨⟨x0, x1, x2, x3, x4, x5⟩, xf0, xf1, xf2, xf3, xf4, xf5⟩ := HX.out.six
        have hlX := HX.out.lt
        by_cases hful : n + 1 + 1 ≤ 5
        · have HS2 : Hid (scan (s.data.toList.take (i + 1)) = some (n + 1 + 1, h)) := Lib.hid (by
            rw [Hst.out]; exact scan1_space (by rw [Hq.out]; exact hsp) hful)
          have HX2 := Lib.hid (HX.out.set 0 (.int .i64 ((n : Int) + 1 + 1)))
          subst hsp
          go_wp2_with fail
          go_roundw
          case rel => exact ⟨i + 1, n + 1, h, by omega, by go_num, HS2.out, hful, H32.out, HB.out.setCell (p := ⟨w.heap.size + 1, 0, none⟩) (by simp) _, HZ.out.setOther (by omega) _, HX2.out⟩
          case measure => simp [intOf]; omega
        · have Hno := Lib.hid (scan_no (scan_dead (i := i + 1) (by rw [Hst.out]; exact scan1_full (by rw [Hq.out]; exact hsp) (by omega))))
          subst hsp
          obtain ⟨⟨z0, z1, z2, z3, z4, z5⟩, zf0, zf1, zf2, zf3, zf4, zf5⟩ := HZ.out.six
          have hlz := HZ.out.lt
          go_wp2_with fail
          refine bodyPost_ret (v := .tuple #[zg, .int .i64 4]) (by simp [results, Tryd.results30, go_sem, z0, z1, z2, z3, z4, z5]) rfl ⟨.inr ⟨Hno.out, rfl⟩, ?_⟩
          have BE := HB.out
          repeat' (first | (with_reducible exact BE) | (with_reducible refine Below.setCell ?_ ?_ _) | go_size)
      · by_cases hd : 48 ≤ q ∧ q < 53
        · obtain ⟨hd1, hd2⟩ := hd
          have hlX := HX.out.lt
          have hcn : wr.cell? ⟨w.heap.size + 1, 0, none⟩ = some (.int .i64 ((n : Int) + 1)) := (HX.out.cell 0).trans (by simp)
          have hcr := box_row (p := n) (by omega) HX.out
          have hfr : wr.frozen? ⟨w.heap.size + 1, 1 + n, none⟩ = false := HX.out.open_ (1 + n)
          have hr := H32.out n
          have hv : h n ||| 2 ^ (q - 48) < 32 := Nat.or_lt_two_pow (n := 5) hr (Nat.lt_of_lt_of_le (Nat.pow_lt_pow_right (by omega) (show q - 48 < 5 by omega)) (by decide))
          have hor : bits .or .i64 ((h n : Nat) : Int) ((2 ^ (q - 48) : Nat) : Int) = ((h n ||| 2 ^ (q - 48) : Nat) : Int) :=
            i64_or_nat _ _ (by omega) (Nat.lt_of_lt_of_le (Nat.pow_lt_pow_right (by omega) (show q - 48 < 5 by omega)) (by decide))
          have HS2 : Hid (scan (s.data.toList.take (i + 1)) = some (n + 1, upd h n (h n ||| 2 ^ (q - 48)))) := Lib.hid (by
            rw [Hst.out, scan1_digit (by rw [Hq.out]; exact ⟨hd1, hd2⟩), Hq.out, Nat.add_sub_cancel])
          have H33 := Lib.hid (upd_lt H32.out n hv)
          have HX2 : Hid (Box (wr.setCell ⟨w.heap.size + 1, 1 + n, none⟩ (.int .i64 ((h n ||| 2 ^ (q - 48) : Nat) : Int))) (w.heap.size + 1) #[.int .i64 ((n + 1 : Nat) : Int), .int .i64 ((upd h n (h n ||| 2 ^ (q - 48))) 0 : Int), .int .i64 ((upd h n (h n ||| 2 ^ (q - 48))) 1 : Int), .int .i64 ((upd h n (h n ||| 2 ^ (q - 48))) 2 : Int), .int .i64 ((upd h n (h n ||| 2 ^ (q - 48))) 3 : Int), .int .i64 ((upd h n (h n ||| 2 ^ (q - 48))) 4 : Int)] 24) := Lib.hid (box_upd (c := h n) (by omega) _ (by
            have e : upd h n (h n) = h := by funext i; unfold upd; split <;> simp_all
            rw [e]; exact HX.out))
          obtain ⟨r', hr'⟩ : ∃ r', h n ||| 2 ^ (q - 48) = r' := ⟨_, rfl⟩
          rw [hr'] at hor HS2 HX2 H33
          obtain ⟨r, hrr⟩ : ∃ r, h n = r := ⟨_, rfl⟩
          rw [hrr] at hor hcr hr
          clear hv hr' hrr
          have HB2 := Lib.hid (HB.out.setCell (p := ⟨w.heap.size + 1, 1 + n, none⟩) (by simp) (.int .i64 ((r' : Nat) : Int)))
          have HZ2 := Lib.hid (HZ.out.setOther (show w.heap.size ≠ w.heap.size + 1 by omega) (i := 1 + n) (.int .i64 ((r' : Nat) : Int)))
          clear HX Hst H32 Hsc HB HZ
          obtain rfl | rfl | rfl | rfl | rfl : q = 48 ∨ q = 49 ∨ q = 50 ∨ q = 51 ∨ q = 52 := by omega
          all_goals
            simp only [Nat.reduceSub, Nat.reducePow, Int.cast_ofNat_Int] at hor
            go_wp2_with fail
            go_roundw
            case rel => exact ⟨i + 1, n, upd h n r', by omega, by go_num, HS2.out, hn5, H33.out, HB2.out, HZ2.out, HX2.out⟩
            case measure => simp [intOf]; omega
        · have Hno := Lib.hid (scan_no (scan_dead (i := i + 1) (by rw [Hst.out]; exact scan1_bad (by rw [Hq.out]; exact hsp) (by rw [Hq.out]; omega))))
          obtain ⟨⟨z0, z1, z2, z3, z4, z5⟩, zf0, zf1, zf2, zf3, zf4, zf5⟩ := HZ.out.six
          have hlz := HZ.out.lt
          by_cases hq1 : q < 48
          · clear hd
            go_wp2_with fail
            refine bodyPost_ret (v := .tuple #[zg, .int .i64 4]) (by simp [results, Tryd.results30, go_sem, z0, z1, z2, z3, z4, z5]) rfl ⟨.inr ⟨Hno.out, rfl⟩, ?_⟩
            have BE := HB.out
            repeat' (first | (with_reducible exact BE) | (with_reducible refine Below.setCell ?_ ?_ _) | go_size)
          · have hq2 : 53 ≤ q := by omega
            have hq3 : 48 ≤ q := by omega
            clear hd hq1
            go_wp2_with fail
            refine bodyPost_ret (v := .tuple #[zg, .int .i64 4]) (by simp [results, Tryd.results30, go_sem, z0, z1, z2, z3, z4, z5]) rfl ⟨.inr ⟨Hno.out, rfl⟩, ?_⟩
            have BE := HB.out
            repeat' (first | (with_reducible exact BE) | (with_reducible refine Below.setCell ?_ ?_ _) | go_size)
    · have his : i = s.size := by omega
      have HA : Hid (scan s.data.toList = some (n + 1, h)) := Lib.hid (by
        have e := Hsc.out
        rw [his, List.take_of_length_le (by rw [Array.length_toList]; exact Nat.le_refl _)] at e
        exact e)
      have HC := Lib.hid (fun w => rcheck_code ((n + 1 : Nat) : Int) (fun p => ((h p : Nat) : Int)) (fun p _ => by have := H32.out p; omega) w)
      have Hwf : Hid (gcode ((n + 1 : Nat) : Int) (fun p => ((h p : Nat) : Int)) = 0 → WF (n + 1) h) := Lib.hid (fun e => by
        have := (wf_of' (gcode_zero e)).1
        simpa using this)
      have Hbad : Hid (gcode ((n + 1 : Nat) : Int) (fun p => ((h p : Nat) : Int)) ≠ 0 → ¬ ∃ n h, IsT s n h) := Lib.hid (by
        rintro e ⟨m, k, h1, h2, _⟩
        rw [HA.out] at h1
        injection h1 with h1
        injection h1 with h1 h3
        subst h1 h3
        exact e (by unfold gcode; rw [if_pos (wfi_of h2)]))
      have hcs := gcode_cases ((n + 1 : Nat) : Int) (fun p => ((h p : Nat) : Int))
      obtain ⟨c, ec⟩ : ∃ c, gcode ((n + 1 : Nat) : Int) (fun p => ((h p : Nat) : Int)) = c := ⟨_, rfl⟩
      rw [ec] at HC Hwf Hbad hcs
      have HT : Hid (∀ W, WF (n + 1) h → Calls Tryd.prog 57 #[gv (n + 1) h] W fun e w' => e = .returned (.string (gtx (n + 1) h)) ∧ Below W.heap.size W w') := Lib.hid (fun W e => rtext_ok _ _ e W)
      have Hyes : Hid (WF (n + 1) h → gtx (n + 1) h = s → IsT s (n + 1) h) := Lib.hid (fun h1 h2 => ⟨HA.out, h1, h2⟩)
      have Hno : Hid (gtx (n + 1) h ≠ s → ¬ ∃ n h, IsT s n h) := Lib.hid (by
        rintro e ⟨m, k, h1, _, h2⟩
        rw [HA.out] at h1
        injection h1 with h1
        injection h1 with h1 h3
        subst h1 h3
        exact e h2)
      obtain ⟨N, hN⟩ : ∃ N, n + 1 = N := ⟨_, rfl⟩
      rw [hN] at HC Hwf HT Hyes Hno HX
      have hn1 : (1 : Int) ≤ (N : Int) := by omega
      have hn5' : (N : Int) ≤ 5 := by omega
      clear ec hN HA H32 Hsc
      obtain ⟨⟨y0, y1, y2, y3, y4, y5⟩, _⟩ := HX.out.six
      have hlU := HX.out.lt
      go_wp2_with fail
      refine (HC.out _).mono ?_
      rintro e w3 ⟨rfl, hb⟩
      have hlZ := HZ.out.lt
      have BB := Lib.hid (HB.out.trans (Joins.below_le hb HB.out.size))
      have Z := Lib.hid (HZ.out.below hb HZ.out.lt)
      have HBV := Lib.hid (HX.out.below hb HX.out.lt)
      clear hb HB HZ HX y0 y1 y2 y3 y4 y5 hlU HC hlZ
      rcases hcs with rfl | rfl | rfl
      · have hwf := Hwf.out rfl
        obtain ⟨⟨y0, y1, y2, y3, y4, y5⟩, _⟩ := HBV.out.six
        have hlU := HBV.out.lt
        go_wp2_with fail
        refine (HT.out _ hwf).mono ?_
        rintro e w4 ⟨rfl, hb⟩
        have BB2 := Lib.hid (BB.out.trans (Joins.below_le hb BB.out.size))
        have Z2 := Lib.hid (Z.out.below hb Z.out.lt)
        have HBW := Lib.hid (HBV.out.below hb HBV.out.lt)
        clear hb BB Z HBV y0 y1 y2 y3 y4 y5 hlU
        by_cases heq : gtx N h = s
        · have hyes := Hyes.out hwf heq
          have hE := heq
          rw [heq]
          clear heq Hyes Hno HT Hwf Hbad hE
          obtain ⟨⟨y0, y1, y2, y3, y4, y5⟩, _⟩ := HBW.out.six
          have hlU := HBW.out.lt
          obtain ⟨⟨z0, z1, z2, z3, z4, z5⟩, zf0, zf1, zf2, zf3, zf4, zf5⟩ := Z2.out.six
          have hlz := Z2.out.lt
          go_wp2_with fail
          refine bodyPost_ret (v := .tuple #[gv N h, .int .i64 0]) (by simp [results, Tryd.results30, go_sem, z0, z1, z2, z3, z4, z5]) rfl ⟨.inl ⟨N, h, hyes, rfl⟩, ?_⟩
          have BE := BB2.out
          repeat' (first | (with_reducible exact BE) | (with_reducible refine Below.setCell ?_ ?_ _) | go_size)
        · have hno := Hno.out heq
          have hdd : (gtx N h).data ≠ s.data := fun e => heq (by
            generalize gtx N h = a at e ⊢
            cases a; cases s; exact congrArg ByteArray.mk e)
          have hne4 : ((gtx N h).toList == s.toList) = false := by
            rw [beq_eq_false_iff_ne]
            intro e
            exact hdd (Array.toList_inj.1 (((ByteArray.toList_eq _).symm.trans e).trans (ByteArray.toList_eq _)))
          clear hdd heq
          clear Hyes Hno HT Hwf Hbad HBW
          obtain ⟨⟨z0, z1, z2, z3, z4, z5⟩, zf0, zf1, zf2, zf3, zf4, zf5⟩ := Z2.out.six
          have hlz := Z2.out.lt
          go_wp2_with fail
          refine bodyPost_ret (v := .tuple #[zg, .int .i64 4]) (by simp [results, Tryd.results30, go_sem, z0, z1, z2, z3, z4, z5]) rfl ⟨.inr ⟨hno, rfl⟩, ?_⟩
          have BE := BB2.out
          repeat' (first | (with_reducible exact BE) | (with_reducible refine Below.setCell ?_ ?_ _) | go_size)
      · have hno := Hbad.out (by decide)
        clear HBV
        obtain ⟨⟨z0, z1, z2, z3, z4, z5⟩, zf0, zf1, zf2, zf3, zf4, zf5⟩ := Z.out.six
        have hlz := Z.out.lt
        go_wp2_with fail
        refine bodyPost_ret (v := .tuple #[zg, .int .i64 4]) (by simp [results, Tryd.results30, go_sem, z0, z1, z2, z3, z4, z5]) rfl ⟨.inr ⟨hno, rfl⟩, ?_⟩
        have BE := BB.out
        repeat' (first | (with_reducible exact BE) | (with_reducible refine Below.setCell ?_ ?_ _) | go_size)
      · have hno := Hbad.out (by decide)
        clear HBV
        obtain ⟨⟨z0, z1, z2, z3, z4, z5⟩, zf0, zf1, zf2, zf3, zf4, zf5⟩ := Z.out.six
        have hlz := Z.out.lt
        go_wp2_with fail
        refine bodyPost_ret (v := .tuple #[zg, .int .i64 4]) (by simp [results, Tryd.results30, go_sem, z0, z1, z2, z3, z4, z5]) rfl ⟨.inr ⟨hno, rfl⟩, ?_⟩
        have BE := BB.out
        repeat' (first | (with_reducible exact BE) | (with_reducible refine Below.setCell ?_ ?_ _) | go_size)
end Go.Proofs.YtacnhklhimogkaaDoor
