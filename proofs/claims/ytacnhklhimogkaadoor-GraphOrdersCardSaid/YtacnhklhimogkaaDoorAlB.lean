/- All of the specification: the list of all graphs of at most four processes; for five, and for other numbers, the errors of both. -/
import Derived.Test.YtacnhklhimogkaaDoorAlA
import Derived.Deep.DeepCutAuto
import Derived.Test.YtacnhklhimogkaaDoorGcB
import Derived.Test.YtacnhklhimogkaaDoorGrN
import Derived.Test.YtacnhklhimogkaaDoorPmA
import Derived.Test.YtacnhklhimogkaaDoorPmM
import Derived.Test.YtacnhklhimogkaaDoorPmD
import Derived.Test.YtacnhklhimogkaaDoorGrR
import Derived.Test.YtacnhklhimogkaaDoorTb
import Derived.LoopTactic
import Derived.Deep.RegionWith
import Derived.WalkKit
import Derived.WalkSpells
import Derived.WalkLawsBesides
import Derived.Handy
import Derived.Deep.QuietTactic
import Derived.BigQuiet
import Derived.Outline
import Derived.Laws.BitsAllLaws
import Derived.IntWalk
import Derived.Lib.SmallJoins
import Derived.Lib.Hide
namespace Go.Proofs.YtacnhklhimogkaaDoor
set_option linter.unusedVariables false
set_option linter.unusedSimpArgs false
open Go.RowKit

/-- What the specification answers: the list, or an error for five. -/
def RAllOk (n B : Nat) (w : World) (e : Ending) (w' : World) : Prop := (n ≤ 4 ∧ AllOk n B w e w') ∨ (n = 5 ∧ e = .returned (.tuple #[.slice none 0 0, .int .i64 17]) ∧ Below B w w')
theorem allG_le5 {n p : Nat} (hn : n ≤ 5) (hp : p ≤ n) (h3 : n = 5 → p ≤ 3) : (allG n p).length ≤ 4096 := by
  rw [allG_len hn p hp]
  have : (n - 1) * p ≤ 12 := by
    by_cases h : n = 5
    · subst h; have := h3 rfl; omega
    · exact Nat.le_trans (Nat.mul_le_mul (show n - 1 ≤ 3 by omega) (show p ≤ 4 by omega)) (by omega)
  exact Nat.pow_le_pow_right (by omega) this

set_option maxRecDepth 100000 in
set_option maxHeartbeats 4000000 in
theorem rall_ok (n : Nat) (h1 : 1 ≤ n) (h5 : n ≤ 5) (w : World) :
    Calls Tryd.prog 32 #[.int .i64 (n : Int)] w (RAllOk n w.heap.size w) := by
  obtain ⟨i0, hi, hz0, hz1, hz2⟩ := info_parts infoG
  have h32 : 2 ^ n ≤ 32 := Nat.pow_le_pow_right (n := 2) (by omega) h5
  have hp0 : 0 < 2 ^ n := Nat.pow_pos (by omega)
  have HFull := Lib.hid (fun w => full_any n h5 w)
  obtain ⟨q, hq⟩ : ∃ q, 2 ^ n = q := ⟨_, rfl⟩
  rw [hq] at h32 hp0 HFull
  have Hq := Lib.hid hq
  clear hq
  go_enter Tryd.func32, Tryd.ntmps32
  go_wp2_with fail
  obtain ⟨W0, hW0⟩ : ∃ W, w.alloc (.cells #[.int .i64 (n : Int), .int .i64 0, .int .i64 0, .int .i64 0, .int .i64 0, .int .i64 0] 24) = W := ⟨_, rfl⟩
  rw [hW0]
  have B0 : Below w.heap.size w W0 := hW0 ▸ (Below.refl _ _).alloc (Nat.le_refl _) _
  have O0 : W0.ownsRow w.heap.size 24 6 (.slice (some ⟨w.heap.size, 0, none⟩) 1 1) (allG n 0).length (flat n (allG n 0)) :=
    ⟨by rw [flat_length], .inr ⟨w.heap.size, 1, _, rfl, Nat.le_refl _, hW0 ▸ Box.new w _ _, Nat.le_refl _, by decide, by rfl, by rfl⟩⟩
  clear hW0
  obtain ⟨H, hH⟩ : ∃ H, w.heap.size = H := ⟨_, rfl⟩
  rw [hH] at B0 O0 ⊢
  have HH := Lib.hid hH
  clear hH
  go_loopw [4, 5] (fun v j wr => ∃ p : Nat, p ≤ n ∧ (n = 5 → p ≤ 3) ∧ j = .int .i64 p ∧ Below H w wr ∧ wr.ownsRow H 24 6 v (allG n p).length (flat n (allG n p))) (fun _ j _ => n - (intOf j).toNat)
  case atStart => exact ⟨0, by omega, by omega, rfl, B0, O0⟩
  case round =>
    obtain ⟨p, hp, hp3, rfl, hB, hO⟩ := hrel
    have Hp3 := Lib.hid hp3
    clear B0 O0 hp3
    by_cases hlt : p < n
    · obtain ⟨l, hl⟩ : ∃ l, allG n p = l := ⟨_, rfl⟩
      have hll := allG_le5 h5 hp Hp3.out
      have hl1 := allG_pos h5 hp
      have hlen := allG_len h5 p hp
      have hmul : (allG n (p + 1)).length = (allG n p).length * 2 ^ (n - 1) := by
        show ((allG n p).flatMap _).length = _
        rw [flat_len, cnt_half h5 hlt]
      have h16 : 2 ^ (n - 1) ≤ 16 := Nat.pow_le_pow_right (n := 2) (by omega) (show n - 1 ≤ 4 by omega)
      have hsm : n ≤ 4 → (allG n p).length * 2 ^ (n - 1) ≤ 4096 := fun h => by rw [← hmul]; exact allG_le h hlt
      have Hn5 : Hid (n = 5 → (allG n p).length * 2 ^ (n - 1) ≤ 4096 → p + 1 ≤ 3) := Lib.hid (by
        intro h hh
        rw [hlen] at hh
        subst h
        have := Hp3.out rfl
        rcases Nat.lt_or_ge p 3 with h | h
        · omega
        · have e : p = 3 := by omega
          subst e
          revert hh; decide)
      rw [hl] at hO hll hl1 hsm Hn5
      have Hl := Lib.hid hl
      have Hsm := Lib.hid hsm
      have hwr : wrap64 ((l.length : Int) * 2 ^ (n - 1)) = ((l.length * 2 ^ (n - 1) : Nat) : Int) := by
        have e : ((l.length : Int) * 2 ^ (n - 1)) = ((l.length * 2 ^ (n - 1) : Nat) : Int) := by simp
        have h3 : l.length * 2 ^ (n - 1) ≤ 4096 * 16 := Nat.mul_le_mul hll h16
        rw [e]
        generalize l.length * 2 ^ (n - 1) = z at h3
        exact IntWalk.wrap64_in _ (by omega)
      clear hl hmul hlen hsm h16
      rcases hO.2 with ⟨_, h0⟩ | ⟨L, cap, cur, rfl, hHL, hLc, hcl, hcm, hcs, htk⟩
      · omega
      have hLl : L < wr.heap.size := (Array.getElem?_eq_some_iff.1 hLc).1
      have HL : Hid (∀ V i k, Below wr.heap.size wr V → (h : i < l.length) → k < 6 → V.cell? ⟨L, i * 6 + k, none⟩ = (gcl n l[i])[k]?) := Lib.hid (by
        intro V i k hV h hk
        rw [hV.cell (p := ⟨L, i * 6 + k, none⟩) hLl, Joins.cell_of_block hLc, ← flat_get n l i k h hk, ← htk, List.getElem?_take, if_pos (by omega), Array.getElem?_toList])
      have HO := Lib.hid hO
      have HB := Lib.hid hB
      unfold maxLen at hcm
      clear hO hB hcs htk hLc
      obtain ⟨z, hz⟩ : ∃ z, l.length * 2 ^ (n - 1) = z := ⟨_, rfl⟩
      rw [hz] at hwr
      have Hz := Lib.hid hz
      clear hz
      by_cases hlim : z ≤ 4096
      · go_wp2_with fail
        try rw [hwr]
        have Hlim : Hid (l.length * 2 ^ (n - 1) ≤ 4096) := Lib.hid (by rw [Hz.out]; exact hlim)
        clear hlim hwr
        obtain ⟨W, hW⟩ : ∃ W, wr = W := ⟨_, rfl⟩
        rw [hW] at HO HB HL hLl ⊢
        clear hW
        obtain ⟨R, hR⟩ : ∃ R, W.heap.size = R := ⟨_, rfl⟩
        rw [hR] at HL hLl
        have HR := Lib.hid hR
        clear hR
        go_loopw [6, 7] (fun v j wr => ∃ k : Nat, k ≤ l.length ∧ j = .int .i64 k ∧ Below R W wr ∧ wr.ownsRow R 24 6 v (lay n p l k).length (flat n (lay n p l k))) (fun _ j _ => l.length - (intOf j).toNat)
        case atStart => exact ⟨0, by omega, rfl, Below.refl _ _, World.ownsRow_nil _ _ _ _⟩
        case round =>
          obtain ⟨k, hk, rfl, hB, hO⟩ := hrel
          by_cases hkl : k < l.length
          · have HO2 : Hid (wr.ownsRow R 24 6 u6 (lay n p l k ++ exts p l[k] 0).length (flat n (lay n p l k ++ exts p l[k] 0))) := Lib.hid (by
              show wr.ownsRow R _ 6 u6 (lay n p l k ++ []).length (flat n (lay n p l k ++ []))
              rw [List.append_nil]; exact hO)
            have HB2 := Lib.hid hB
            have HC : Hid (∀ V i, Below R W V → i < 6 → V.cell? ⟨L, k * 6 + i, none⟩ = (gcl n l[k])[i]?) := Lib.hid (fun V i hV hi => HL.out V k i hV hkl hi)
            have hls := lay_succ n p l hkl
            obtain ⟨a, ha⟩ : ∃ a, l[k] = a := ⟨_, rfl⟩
            rw [ha] at hls HC HO2
            have Hls := Lib.hid hls
            clear hls ha hO hB
            go_wp2_with fail
            go_loopw [6, 8] (fun v j ws => ∃ m : Nat, m ≤ q ∧ j = .int .i64 m ∧ Below R W ws ∧ ws.ownsRow R 24 6 v (lay n p l k ++ exts p a m).length (flat n (lay n p l k ++ exts p a m))) (fun _ j _ => q - (intOf j).toNat)
            case atStart => exact ⟨0, by omega, rfl, HB2.out, HO2.out⟩
            case round =>
              clear HB2 HO2
              obtain ⟨m, hm, rfl, hB, hO⟩ := hrel
              have HB3 := Lib.hid hB
              have HO3 := Lib.hid hO
              clear hB hO
              by_cases hml : m < q
              · by_cases hbit : m / 2 ^ p % 2 = 1
                · have HHas := Lib.hid (fun w => has_any p (show p ≤ 5 by omega) m (by omega) w)
                  rw [decide_eq_true hbit] at HHas
                  have he := exts_yes (a := a) hbit
                  have He := Lib.hid he
                  have c0 := HC.out wr 0 HB3.out (by omega)
                  have c1 := HC.out wr 1 HB3.out (by omega)
                  have c2 := HC.out wr 2 HB3.out (by omega)
                  have c3 := HC.out wr 3 HB3.out (by omega)
                  have c4 := HC.out wr 4 HB3.out (by omega)
                  have c5 := HC.out wr 5 HB3.out (by omega)
                  simp [gcl] at c0 c1 c2 c3 c4 c5
                  clear hbit he
                  go_wp2_with fail
                  refine (HFull.out _).mono ?_
                  rintro e w' ⟨rfl, rfl⟩
                  go_wp2_with fail
                  refine (HHas.out _).mono ?_
                  rintro e w' ⟨rfl, rfl⟩
                  go_upto_region 18 with fail
                  clear c0 c1 c2 c3 c4 c5
                  obtain ⟨V, hV⟩ : ∃ V, wr.alloc (.cells #[.int .i64 (n : Int), .int .i64 (a 0 : Int), .int .i64 (a 1 : Int), .int .i64 (a 2 : Int), .int .i64 (a 3 : Int), .int .i64 (a 4 : Int)] 24) = V := ⟨_, rfl⟩
                  obtain ⟨G, hG⟩ : ∃ G, wr.heap.size = G := ⟨_, rfl⟩
                  have hGn : ∀ g, u6.ownBlock = some g → g ≠ G := fun g hg e => by have := (HO3.out.lt g hg).2; omega
                  have hRG : R ≤ G := by have := HB3.out.size; have := HR.out; omega
                  have XG : Box V G #[.int .i64 (n : Int), .int .i64 ((upd a p (a p)) 0 : Int), .int .i64 ((upd a p (a p)) 1 : Int), .int .i64 ((upd a p (a p)) 2 : Int), .int .i64 ((upd a p (a p)) 3 : Int), .int .i64 ((upd a p (a p)) 4 : Int)] 24 := by
                    have e : upd a p (a p) = a := by funext i; unfold upd; split <;> simp_all
                    rw [e, ← hG]
                    exact hV ▸ Box.new wr _ _
                  have OG : V.ownsRow R 24 6 u6 (lay n p l k ++ exts p a m).length (flat n (lay n p l k ++ exts p a m)) := hV ▸ HO3.out.alloc _
                  have BV : Below R W V := hV ▸ HB3.out.alloc (by rw [hG]; exact hRG) _
                  rw [hV, hG]
                  clear hV hG
                  have hcr := box_row (p := p) (by omega) XG
                  rw [upd_at] at hcr
                  have hfr : V.frozen? ⟨G, 1 + p, none⟩ = false := XG.open_ (1 + p)
                  have hlG := XG.lt
                  have HX4 := Lib.hid (box_upd (by omega) m XG)
                  have HO4 := Lib.hid (OG.kept (grown_set V ⟨G, 1 + p, none⟩ (.int .i64 (m : Int))) (by
                    cases hu : u6.ownBlock with
                    | none => exact .inl rfl
                    | some g => exact .inr (fun e => hGn g hu (by injection e))))
                  have HB4 := Lib.hid (BV.setCell (p := ⟨G, 1 + p, none⟩) hRG (.int .i64 (m : Int)))
                  clear XG OG BV HO3 HB3 hGn
                  go_upto_region 19 with fail
                  clear hcr hfr
                  obtain ⟨X, hX⟩ : ∃ X, V.setCell ⟨G, 1 + p, none⟩ (.int .i64 (m : Int)) = X := ⟨_, rfl⟩
                  rw [hX] at HX4 HO4 HB4 ⊢
                  have hlX := HX4.out.lt
                  clear hX hlG
                  obtain ⟨C, hC⟩ : ∃ C, (lay n p l k ++ exts p a m).length = C := ⟨_, rfl⟩
                  have hCb : C ≤ 65536 + 32 := by
                    have h1 := lay_le (n := n) (p := p) (by omega) hlt l k
                    have h2 := exts_le p a m
                    rw [← hC, List.length_append]
                    omega
                  rw [hC] at HO4
                  have HC2 := Lib.hid hC
                  clear hC
                  obtain ⟨y, hy⟩ : ∃ y, upd a p m = y := ⟨_, rfl⟩
                  rw [hy] at HX4 He
                  clear hy
                  obtain ⟨⟨y0, y1, y2, y3, y4, y5⟩, _⟩ := HX4.out.six
                  go_wp2_with (at_builtin; refine wpList_append_own _ rfl _ _ 52 rfl R 24 i0 (.agg #[.int .i64 0, .int .i64 0, .int .i64 0, .int .i64 0, .int .i64 0, .int .i64 0]) 6 48 Tryd.underlying52 hi hz0 hz1 hz2 rfl (by decide) _ _ _ rfl (HO4.out.alloc _) ⟨X.heap.size, 0, none⟩ 1 1 (gcl n y) rfl rfl ?c1 ?c2 ?c3 ?c4 ?c5 ?_)
                  case c1 => exact Box.cells (Box.new X _ _)
                  case c2 => exact gcl_one n y
                  case c3 => unfold maxLen; omega
                  case c4 => omega
                  case c5 => simp; omega
                  intro v' w1 hown' hgrow hnil
                  clear y0 y1 y2 y3 y4 y5 hnil
                  have HO6 := Lib.hid (show w1.ownsRow R 24 6 v' (lay n p l k ++ exts p a (m + 1)).length (flat n (lay n p l k ++ exts p a (m + 1))) from by
                    rw [He.out, ← List.append_assoc, flat_append, List.length_append, HC2.out]
                    have e : flat n [y] = gcl n y := by simp [flat]
                    rw [e]
                    exact hown')
                  have HB6 := Lib.hid ((HB4.out.alloc (by have := HB4.out.size; have := HR.out; omega) _).grown hgrow (by have := HB4.out.size; have := HR.out; simp; omega) (fun k hk => (HO4.out.lt k hk).1))
                  clear hown' hgrow HB4 HO4 HX4 HC2
                  go_wp2_with fail
                  go_roundw
                  case rel => exact ⟨m + 1, by omega, by go_num, HB6.out, HO6.out⟩
                  case measure => simp [intOf]; omega
                · have HHas := Lib.hid (fun w => has_any p (show p ≤ 5 by omega) m (by omega) w)
                  rw [decide_eq_false hbit] at HHas
                  have he := exts_no (a := a) hbit
                  rw [← he] at HO3
                  have HO4 := Lib.hid HO3.out
                  clear HO3 he hbit
                  go_wp2_with fail
                  refine (HFull.out _).mono ?_
                  rintro e w' ⟨rfl, rfl⟩
                  go_wp2_with fail
                  refine (HHas.out _).mono ?_
                  rintro e w' ⟨rfl, rfl⟩
                  go_wp2_with fail
                  go_roundw
                  case rel => exact ⟨m + 1, by omega, by go_num, HB3.out, HO4.out⟩
                  case measure => simp [intOf]; omega
              · have hmq : m = q := by omega
                have HO4 : Hid (wr.ownsRow R 24 6 u6 (lay n p l (k + 1)).length (flat n (lay n p l (k + 1)))) := Lib.hid (by
                  have h := HO3.out
                  rw [hmq, ← Hq.out, ← Hls.out] at h
                  exact h)
                clear HO3
                go_wp2_with fail
                refine (HFull.out _).mono ?_
                rintro e w' ⟨rfl, rfl⟩
                go_wp2_with fail
                go_roundw
                case rel => exact ⟨k + 1, by omega, by go_num, HB3.out, HO4.out⟩
                case measure => simp [intOf]; omega
          · have hkl2 : k = l.length := by omega
            have HO3 : Hid (wr.ownsRow H 24 6 u6 (allG n (p + 1)).length (flat n (allG n (p + 1)))) := Lib.hid (by
              have e : lay n p l k = allG n (p + 1) := by rw [hkl2, ← Hl.out]; exact lay_all n p
              rw [← e]
              exact own_mono hO (by have := HB.out.size; have := HR.out; have := HH.out; omega))
            have HB3 := Lib.hid (HB.out.trans (Joins.below_le hB (by have := HB.out.size; have := HR.out; have := HH.out; omega)))
            have Hp4 : Hid (n = 5 → p + 1 ≤ 3) := Lib.hid (fun h => Hn5.out h Hlim.out)
            clear hO hB
            go_wp2_with fail
            go_roundw
            case rel => exact ⟨p + 1, by omega, Hp4.out, by go_num, HB3.out, HO3.out⟩
            case measure => simp [intOf]; omega
      · have HN : Hid (n = 5) := Lib.hid (by
          rcases Nat.lt_or_ge n 5 with h | h
          · exact absurd (Hz.out ▸ Hsm.out (by omega)) hlim
          · omega)
        go_wp2_with fail
        go_ret2
        exact .inr ⟨HN.out, rfl, HB.out⟩
    · have hpn : p = n := by omega
      subst hpn
      have HO := Lib.hid hO
      have HB := Lib.hid hB
      clear hO hB
      go_wp2_with fail
      go_ret2
      exact .inl ⟨by rcases Nat.lt_or_ge p 5 with h | h; omega; (have := Hp3.out (by omega); omega), _, rfl, by first | exact HB.out | (rw [HH.out]; exact HB.out), by first | exact HO.out | (rw [HH.out]; exact HO.out)⟩
end Go.Proofs.YtacnhklhimogkaaDoor
