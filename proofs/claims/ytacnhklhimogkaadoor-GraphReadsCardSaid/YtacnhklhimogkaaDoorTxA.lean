/- The text of a well-formed graph, by the specification: the same bytes. -/
import Derived.Test.YtacnhklhimogkaaDoorTxM
import Derived.Test.YtacnhklhimogkaaDoorAlC
import Derived.Deep.DeepCutAuto
import Derived.Laws.BytesArg
import Derived.Laws.IdiomStrings
import Derived.Test.YtacnhklhimogkaaDoorGcB
import Derived.Test.YtacnhklhimogkaaDoorGrN
import Derived.Test.YtacnhklhimogkaaDoorPmA
import Derived.Test.YtacnhklhimogkaaDoorPmM
import Derived.Test.YtacnhklhimogkaaDoorPmD
import Derived.Test.YtacnhklhimogkaaDoorGrR
import Derived.Test.YtacnhklhimogkaaDoorTb
import Derived.LoopTactic
import Derived.Deep.RegionWith
import Derived.WalkKit
import Derived.WalkSpells
import Derived.WalkLawsBesides
import Derived.Handy
import Derived.Deep.QuietTactic
import Derived.BigQuiet
import Derived.Outline
import Derived.Laws.BitsAllLaws
import Derived.IntWalk
import Derived.Lib.SmallJoins
import Derived.Lib.Hide
namespace Go.Proofs.YtacnhklhimogkaaDoor
set_option linter.unusedVariables false
set_option linter.unusedSimpArgs false
open Go.RowKit

theorem infoU : (Tryd.prog.info? 5).map (fun i => (i.zero, i.size, i.bytes)) = some (some (.int .u8 0), 1, 1) := by kernel_rfl
/-- Bytes as cells. -/
def bv (l : List UInt8) : List Value := l.map fun b => .int .u8 (b.toNat : Int)
theorem bv_app (l m : List UInt8) : bv (l ++ m) = bv l ++ bv m := List.map_append
theorem conv_u8 (m : Nat) (hm : m < 5) (w : World) : (convert 3 5 (.int .i64 (48 + (m : Int)))).run Tryd.prog w = .ok (.int .u8 (48 + (m : Int))) w := by
  obtain rfl | rfl | rfl | rfl | rfl : m = 0 ∨ m = 1 ∨ m = 2 ∨ m = 3 ∨ m = 4 := by omega
  all_goals kernel_rfl
theorem jq_yes {n p m : Nat} {a : Nat → Nat} (h : a p / 2 ^ m % 2 = 1) : jq n a p (m + 1) = jq n a p m ++ [UInt8.ofNat (48 + m)] := by
  unfold jq
  rw [List.append_assoc]
  congr 1
  exact if_pos h
theorem jq_no {n p m : Nat} {a : Nat → Nat} (h : ¬ a p / 2 ^ m % 2 = 1) : jq n a p (m + 1) = jq n a p m := by
  unfold jq
  congr 1
  exact if_neg h
theorem jq_len (n : Nat) (a : Nat → Nat) (p m : Nat) : (jq n a p m).length ≤ p * (n + 1) + 1 + m := by
  have h1 := jn_len n a p
  have h2 := rtl_len (a p) m
  unfold jq
  split <;> simp <;> omega
theorem jq_zero (n : Nat) (a : Nat → Nat) : jq n a 0 0 = jn n a 0 := by
  unfold jq jn
  rw [if_pos rfl]
  show [] ++ [] = Lib.join [] [32]
  rw [Lib.join_nil]; rfl
theorem jq_start {n p : Nat} {a : Nat → Nat} (h : 0 < p) : jq n a p 0 = jn n a p ++ [32] := by
  unfold jq
  rw [if_neg (by omega)]
  show _ ++ [] = _
  rw [List.append_nil]

set_option maxRecDepth 100000 in
set_option maxHeartbeats 4000000 in
theorem rtext_ok (n : Nat) (a : Nat → Nat) (ha : WF n a) (w : World) :
    Calls Tryd.prog 57 #[gv n a] w fun e w' => e = .returned (.string (gtx n a)) ∧ Below w.heap.size w w' := by
  obtain ⟨i0, hi, hz0, hz1, hz2⟩ := info_parts infoU
  have h1 : 1 ≤ n := ha.1.1
  have h5 : n ≤ 5 := ha.1.2
  have Har := Lib.hid (fun p (hp : p < n) => pow_small h5 (ha.2.1 p hp).1)
  have Hd : Hid ((gtx n a).data.toList = jn n a n) := Lib.hid (gtx_list h5 a)
  clear ha
  go_enter Tryd.func57, Tryd.ntmps57
  go_wp2_with fail
  obtain ⟨W, hW⟩ : ∃ W, w.alloc (.cells #[.int .i64 (n : Int), .int .i64 (a 0 : Int), .int .i64 (a 1 : Int), .int .i64 (a 2 : Int), .int .i64 (a 3 : Int), .int .i64 (a 4 : Int)] 24) = W := ⟨_, rfl⟩
  rw [hW]
  have XA : Box W w.heap.size #[.int .i64 (n : Int), .int .i64 (a 0 : Int), .int .i64 (a 1 : Int), .int .i64 (a 2 : Int), .int .i64 (a 3 : Int), .int .i64 (a 4 : Int)] 24 := hW ▸ Box.new w _ _
  have HB1 := Lib.hid (show Below w.heap.size w W from hW ▸ (Below.refl _ _).alloc (Nat.le_refl _) _)
  have hRW : W.heap.size = w.heap.size + 1 := by rw [← hW]; simp
  obtain ⟨R, hR⟩ : ∃ R, W.heap.size = R := ⟨_, rfl⟩
  have hz0' : w.heap.size < R := by omega
  have HR := Lib.hid hR
  clear hW hR hRW
  have hRW2 : R ≤ W.heap.size := by rw [HR.out]; exact Nat.le_refl _
  have CA : Hid (∀ m, m < 5 → ∀ V, Below R W V → V.cell? ⟨w.heap.size, 1 + m, none⟩ = some (.int .i64 (a m : Int))) := Lib.hid (fun m hm V hV => cell_row (n := n) (k := a) (fun i _ => (XA.below hV hz0').cell i) hm)
  have CN : Hid (∀ V, Below R W V → V.cell? ⟨w.heap.size, 0, none⟩ = some (.int .i64 (n : Int))) := Lib.hid (fun V hV => (XA.below hV hz0').cell 0)
  clear XA
  go_loopw [3, 4] (fun v j wr => ∃ p : Nat, p ≤ n ∧ j = .int .i64 p ∧ Below R W wr ∧ wr.ownsRow R 5 1 v (jn n a p).length (bv (jn n a p))) (fun _ j _ => n - (intOf j).toNat)
  case atStart => exact ⟨0, by omega, rfl, Below.refl _ _, by
    have e : jn n a 0 = [] := by unfold jn; exact Lib.join_nil _
    rw [e]; exact World.ownsRow_nil _ _ _ _⟩
  case round =>
    obtain ⟨p, hp, rfl, hB, hO⟩ := hrel
    have hcn := CN.out wr hB
    by_cases hlt : p < n
    · have hlb : (jn n a p).length ≤ 100 := by
        have h1 := jn_len n a p
        have h2 : p * (n + 1) ≤ 5 * 6 := Nat.mul_le_mul (by omega) (by omega)
        omega
      by_cases hp0 : 0 < p
      · have HQ := Lib.hid (jq_start (n := n) (a := a) hp0)
        have HO := Lib.hid hO
        have HB := Lib.hid hB
        clear hO hB
        go_wp2_with (at_builtin; refine wpList_append_own _ rfl _ _ 82 rfl R 5 i0 (.int .u8 0) 1 1 Tryd.underlying82 hi hz0 hz1 hz2 rfl (by decide) _ _ _ rfl (HO.out.alloc _) ⟨wr.heap.size, 0, none⟩ 1 1 [.int .u8 32] rfl rfl ?c21 ?c22 ?c23 ?c24 ?c25 ?_)
        case c21 => exact Box.cells (Box.new wr _ _)
        case c22 => intro u hu; simp at hu; rw [hu]; rfl
        case c23 => unfold maxLen; omega
        case c24 => omega
        case c25 => simp; have := HB.out.size; omega
        intro v' w1 hown' hgrow hnil
        have HO2 := Lib.hid (show w1.ownsRow R 5 1 v' (jq n a p 0).length (bv (jq n a p 0)) from by
          rw [HQ.out, List.length_append, bv_app]
          exact hown')
        have HB2 := Lib.hid ((HB.out.alloc (by have := HB.out.size; omega) _).grown hgrow (by have := HB.out.size; simp; omega) (fun k hk => (HO.out.lt k hk).1))
        clear hown' hgrow hnil HO HB
        go_wp2_with fail
        go_loopw [3, 5] (fun v j ws => ∃ m : Nat, m ≤ n ∧ j = .int .i64 m ∧ Below R W ws ∧ ws.ownsRow R 5 1 v (jq n a p m).length (bv (jq n a p m))) (fun _ j _ => n - (intOf j).toNat)
        case atStart => exact ⟨0, by omega, rfl, HB2.out, HO2.out⟩
        case round =>
          clear HB2 HO2
          obtain ⟨m, hm, rfl, hB, hO⟩ := hrel
          have HB := Lib.hid hB
          have HO := Lib.hid hO
          have hcn := CN.out wr hB
          have hca := CA.out p (by omega) wr hB
          clear hB hO
          by_cases hml : m < n
          · have hx := Har.out p hlt
            have hlen := jq_len n a p m
            have hlb : (jq n a p m).length ≤ 100 := by
              have h1 : p * (n + 1) ≤ 5 * 6 := Nat.mul_le_mul (by omega) (by omega)
              omega
            by_cases hbit : a p / 2 ^ m % 2 = 1
            · have HHas := Lib.hid (fun w => has_any m (show m ≤ 5 by omega) (a p) hx w)
              rw [decide_eq_true hbit] at HHas
              have HQ := Lib.hid (jq_yes (n := n) (p := p) hbit)
              have hcv := conv_u8 m (by omega)
              have Hu : Hid ((UInt8.ofNat (48 + m)).toNat = 48 + m) := Lib.hid (by
                obtain rfl | rfl | rfl | rfl | rfl : m = 0 ∨ m = 1 ∨ m = 2 ∨ m = 3 ∨ m = 4 := by omega
                all_goals decide)
              obtain ⟨x, hxx⟩ : ∃ x, a p = x := ⟨_, rfl⟩
              rw [hxx] at hca HHas
              clear hbit hxx hlen
              go_wp2_with fail
              refine (HHas.out _).mono ?_
              rintro e w' ⟨rfl, rfl⟩
              go_wp2_with (at_builtin; refine wpList_append_own _ rfl _ _ 82 rfl R 5 i0 (.int .u8 0) 1 1 Tryd.underlying82 hi hz0 hz1 hz2 rfl (by decide) _ _ _ rfl (HO.out.alloc _) ⟨wr.heap.size, 0, none⟩ 1 1 [.int .u8 (48 + (m : Int))] rfl rfl ?c11 ?c12 ?c13 ?c14 ?c15 ?_)
              case c11 => exact Box.cells (Box.new wr _ _)
              case c12 => intro u hu; simp at hu; rw [hu]; rfl
              case c13 => unfold maxLen; omega
              case c14 => omega
              case c15 => simp; have := HB.out.size; omega
              intro v' w1 hown' hgrow hnil
              have HO2 := Lib.hid (show w1.ownsRow R 5 1 v' (jq n a p (m + 1)).length (bv (jq n a p (m + 1))) from by
                rw [HQ.out, List.length_append, bv_app]
                have e : bv [UInt8.ofNat (48 + m)] = [.int .u8 (48 + (m : Int))] := by
                  have e2 : (((UInt8.ofNat (48 + m)).toNat : Nat) : Int) = 48 + (m : Int) := by rw [Hu.out]; omega
                  show [Value.int .u8 (((UInt8.ofNat (48 + m)).toNat : Nat) : Int)] = _
                  rw [e2]
                rw [e]; exact hown')
              have HB2 := Lib.hid ((HB.out.alloc (by have := HB.out.size; omega) _).grown hgrow (by have := HB.out.size; simp; omega) (fun k hk => (HO.out.lt k hk).1))
              clear hown' hgrow hnil HO HB
              go_wp2_with fail
              go_roundw
              case rel => exact ⟨m + 1, by omega, by go_num, HB2.out, HO2.out⟩
              case measure => simp [intOf]; omega
            · have HHas := Lib.hid (fun w => has_any m (show m ≤ 5 by omega) (a p) hx w)
              rw [decide_eq_false hbit] at HHas
              have HO2 : Hid (wr.ownsRow R 5 1 u3 (jq n a p (m + 1)).length (bv (jq n a p (m + 1)))) := Lib.hid (by rw [jq_no hbit]; exact HO.out)
              obtain ⟨x, hxx⟩ : ∃ x, a p = x := ⟨_, rfl⟩
              rw [hxx] at hca HHas
              clear hbit hxx hlen HO
              go_wp2_with fail
              refine (HHas.out _).mono ?_
              rintro e w' ⟨rfl, rfl⟩
              go_wp2_with fail
              go_roundw
              case rel => exact ⟨m + 1, by omega, by go_num, HB.out, HO2.out⟩
              case measure => simp [intOf]; omega
          · have hmn : m = n := by omega
            have HO2 : Hid (wr.ownsRow R 5 1 u3 (jn n a (p + 1)).length (bv (jn n a (p + 1)))) := Lib.hid (by
              have h := HO.out
              rw [hmn, jq_full] at h
              exact h)
            clear HO hca
            go_wp2_with fail
            go_roundw
            case rel => exact ⟨p + 1, by omega, by go_num, HB.out, HO2.out⟩
            case measure => simp [intOf]; omega
      · have hp00 : p = 0 := by omega
        have HO2 : Hid (wr.ownsRow R 5 1 u3 (jq n a p 0).length (bv (jq n a p 0))) := Lib.hid (by
          rw [hp00] at hO ⊢
          rw [jq_zero]; exact hO)
        have HB2 := Lib.hid hB
        have hp0i : decide ((0 : Int) < (p : Int)) = false := by rw [hp00]; rfl
        clear hO hB hp00
        go_wp2_with fail
        go_loopw [3, 5] (fun v j ws => ∃ m : Nat, m ≤ n ∧ j = .int .i64 m ∧ Below R W ws ∧ ws.ownsRow R 5 1 v (jq n a p m).length (bv (jq n a p m))) (fun _ j _ => n - (intOf j).toNat)
        case atStart => exact ⟨0, by omega, rfl, HB2.out, HO2.out⟩
        case round =>
          clear HB2 HO2
          obtain ⟨m, hm, rfl, hB, hO⟩ := hrel
          have HB := Lib.hid hB
          have HO := Lib.hid hO
          have hcn := CN.out wr hB
          have hca := CA.out p (by omega) wr hB
          clear hB hO
          by_cases hml : m < n
          · have hx := Har.out p hlt
            have hlen := jq_len n a p m
            have hlb : (jq n a p m).length ≤ 100 := by
              have h1 : p * (n + 1) ≤ 5 * 6 := Nat.mul_le_mul (by omega) (by omega)
              omega
            by_cases hbit : a p / 2 ^ m % 2 = 1
            · have HHas := Lib.hid (fun w => has_any m (show m ≤ 5 by omega) (a p) hx w)
              rw [decide_eq_true hbit] at HHas
              have HQ := Lib.hid (jq_yes (n := n) (p := p) hbit)
              have hcv := conv_u8 m (by omega)
              have Hu : Hid ((UInt8.ofNat (48 + m)).toNat = 48 + m) := Lib.hid (by
                obtain rfl | rfl | rfl | rfl | rfl : m = 0 ∨ m = 1 ∨ m = 2 ∨ m = 3 ∨ m = 4 := by omega
                all_goals decide)
              obtain ⟨x, hxx⟩ : ∃ x, a p = x := ⟨_, rfl⟩
              rw [hxx] at hca HHas
              clear hbit hxx hlen
              go_wp2_with fail
              refine (HHas.out _).mono ?_
              rintro e w' ⟨rfl, rfl⟩
              go_wp2_with (at_builtin; refine wpList_append_own _ rfl _ _ 82 rfl R 5 i0 (.int .u8 0) 1 1 Tryd.underlying82 hi hz0 hz1 hz2 rfl (by decide) _ _ _ rfl (HO.out.alloc _) ⟨wr.heap.size, 0, none⟩ 1 1 [.int .u8 (48 + (m : Int))] rfl rfl ?c11 ?c12 ?c13 ?c14 ?c15 ?_)
              case c11 => exact Box.cells (Box.new wr _ _)
              case c12 => intro u hu; simp at hu; rw [hu]; rfl
              case c13 => unfold maxLen; omega
              case c14 => omega
              case c15 => simp; have := HB.out.size; omega
              intro v' w1 hown' hgrow hnil
              have HO2 := Lib.hid (show w1.ownsRow R 5 1 v' (jq n a p (m + 1)).length (bv (jq n a p (m + 1))) from by
                rw [HQ.out, List.length_append, bv_app]
                have e : bv [UInt8.ofNat (48 + m)] = [.int .u8 (48 + (m : Int))] := by
                  have e2 : (((UInt8.ofNat (48 + m)).toNat : Nat) : Int) = 48 + (m : Int) := by rw [Hu.out]; omega
                  show [Value.int .u8 (((UInt8.ofNat (48 + m)).toNat : Nat) : Int)] = _
                  rw [e2]
                rw [e]; exact hown')
              have HB2 := Lib.hid ((HB.out.alloc (by have := HB.out.size; omega) _).grown hgrow (by have := HB.out.size; simp; omega) (fun k hk => (HO.out.lt k hk).1))
              clear hown' hgrow hnil HO HB
              go_wp2_with fail
              go_roundw
              case rel => exact ⟨m + 1, by omega, by go_num, HB2.out, HO2.out⟩
              case measure => simp [intOf]; omega
            · have HHas := Lib.hid (fun w => has_any m (show m ≤ 5 by omega) (a p) hx w)
              rw [decide_eq_false hbit] at HHas
              have HO2 : Hid (wr.ownsRow R 5 1 u3 (jq n a p (m + 1)).length (bv (jq n a p (m + 1)))) := Lib.hid (by rw [jq_no hbit]; exact HO.out)
              obtain ⟨x, hxx⟩ : ∃ x, a p = x := ⟨_, rfl⟩
              rw [hxx] at hca HHas
              clear hbit hxx hlen HO
              go_wp2_with fail
              refine (HHas.out _).mono ?_
              rintro e w' ⟨rfl, rfl⟩
              go_wp2_with fail
              go_roundw
              case rel => exact ⟨m + 1, by omega, by go_num, HB.out, HO2.out⟩
              case measure => simp [intOf]; omega
          · have hmn : m = n := by omega
            have HO2 : Hid (wr.ownsRow R 5 1 u3 (jn n a (p + 1)).length (bv (jn n a (p + 1)))) := Lib.hid (by
              have h := HO.out
              rw [hmn, jq_full] at h
              exact h)
            clear HO hca
            go_wp2_with fail
            go_roundw
            case rel => exact ⟨p + 1, by omega, by go_num, HB.out, HO2.out⟩
            case measure => simp [intOf]; omega
    · have hpn : p = n := by omega
      subst hpn
      have hconv : (convert 82 9 u3).run Tryd.prog wr = .ok (.string (gtx p a)) wr := by
        have hs : Tryd.prog.underlying 82 = some (.slice 5) := by kernel_rfl
        have he : Tryd.prog.underlying 5 = some (.int .u8) := by kernel_rfl
        have hd : Tryd.prog.underlying 9 = some .string := by kernel_rfl
        have hg : gtx p a = ⟨(jn p a p).toArray⟩ := by rw [← Hd.out]
        rcases hO.2 with ⟨h0, h2⟩ | ⟨g, cap, cur, h0, _⟩
        · rw [h0, hg, List.length_eq_zero_iff.1 h2]
          exact run_convert_bytes_nil wr _ _ hs he 0 0 _ hd
        · have hcells := hO.cells (g := g) (by rw [h0]; rfl)
          rw [h0, hg]
          exact run_convert_bytes_back wr _ _ _ _ _ _ hs he hd (fun j hj => hcells j _ (by
            unfold bv
            rw [List.getElem?_map, List.getElem?_eq_getElem hj]; rfl))
      have HB := Lib.hid hB
      clear hO hB
      go_wp2_with fail
      go_ret
      exact ⟨rfl, HB1.out.trans (Joins.below_le HB.out (by omega))⟩

theorem rformat_ok (n : Nat) (a : Nat → Nat) (ha : WF n a) (ra : Rng (fun p => (a p : Int))) (w : World) :
    Calls Tryd.prog 28 #[gv n a] w fun e w' => e = .returned (.tuple #[.string (gtx n a), .int .i64 0]) ∧ Below w.heap.size w w' := by
  have HC := Lib.hid (fun w => rcheck_code (n : Int) _ ra w)
  have e0 : gcode (n : Int) (fun p => (a p : Int)) = 0 := by unfold gcode; rw [if_pos (wfi_of ha)]
  rw [e0] at HC
  have HT := Lib.hid (fun w => rtext_ok n a ha w)
  clear ha ra e0
  go_enter Tryd.func28, Tryd.ntmps28
  go_wp2_with fail
  refine (HC.out _).mono ?_
  rintro e w1 ⟨rfl, hb1⟩
  obtain ⟨hc, hf⟩ := bcell hb1
  have hz : w.heap.size < w1.heap.size := by have := hb1.size; simp at this; omega
  have B1 := fresh_below hb1
  go_wp2_with fail
  refine (HT.out _).mono ?_
  rintro e w2 ⟨rfl, hb2⟩
  go_wp2_with fail
  go_ret2
  exact ⟨rfl, B1.trans (Joins.below_le hb2 B1.size)⟩

theorem rformat_bad (n : Int) (a : Nat → Int) (ra : Rng a) (h : gcode n a ≠ 0) (w : World) :
    Calls Tryd.prog 28 #[iv n a] w fun e w' => e = .returned (.tuple #[.string { data := #[] }, .int .i64 (gcode n a)]) ∧ Below w.heap.size w w' := by
  have Hc := Lib.hid (fun w => rcheck_code n a ra w)
  have hc := gcode_cases n a
  obtain ⟨c, ec⟩ : ∃ c, gcode n a = c := ⟨_, rfl⟩
  rw [ec] at Hc hc h ⊢
  clear ec ra
  go_enter Tryd.func28, Tryd.ntmps28
  go_wp2_with fail
  refine (Hc.out _).mono ?_
  rintro e w1 ⟨rfl, hb1⟩
  have B1 := fresh_below hb1
  clear Hc
  rcases hc with rfl | rfl | rfl
  · exact absurd rfl h
  all_goals
    clear h
    go_wp2_with fail
    go_ret2
    exact ⟨rfl, B1⟩
end Go.Proofs.YtacnhklhimogkaaDoor
