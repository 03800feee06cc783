/- The law of the classes. -/
import Derived.Test.YtbkmcibibppjeaaQaG
import Derived.WalkKit
import Derived.WalkSpells
import Derived.WalkLawsBesides
import Derived.Handy
import Derived.Deep.QuietTactic
import Derived.BigQuiet
import Derived.Outline
import Derived.Laws.BitsAllLaws
import Derived.IntWalk
import Derived.Lib.SmallJoins
import Derived.Lib.Hide
import Derived.Deep.DeepCutAuto
import Derived.LoopTactic
import Derived.Deep.RegionWith
namespace Go.Proofs.Ytbkmcibibppjeaa
set_option linter.unusedVariables false
set_option linter.unusedSimpArgs false
open Go.RowKit Part

theorem vcells_congr {n : Nat} {V V' : Nat → Value} (h : ∀ i, i < n → V i = V' i) : vcells n V = vcells n V' := by
  unfold vcells
  congr 1
  exact List.map_congr_left fun i hi => h i (List.mem_range.1 hi)
theorem seen_made (a : Nat → Nat) (n : Nat) : vcells n (fun _ => .bool false) = vcells n (seen a n 0 0) := vcells_congr fun i _ => (seen_zero a n i).symm
theorem Ls.at_ {w : World} {o : Option Addr} {k : Nat} {L : Nat → List Int} (h : Ls w o k L) (hk : 0 < k) : ∃ b off, o = some ⟨b, off, none⟩ ∧ b < w.heap.size ∧ ∀ c, c < k → ∃ oc capc, w.cell? ⟨b, off + c, none⟩ = some (.slice oc (L c).length capc) ∧ Lz w oc (L c).length (fun j => (L c).getD j 0) := h hk
/-- Other names of the labels. -/
def names (a : Nat → Nat) (by_ : Int) : Nat → Int := fun j => by_ - 2 * (a j : Int)
theorem labf_self {n : Nat} {a : Nat → Nat} (h : Wf n a) : ∀ i, i < n → labf (zf a) i = zf a i := fun i hi => by
  have := lab_names h (κ := fun j => (zf a j, (0 : Int))) (fun i j _ _ => by
    unfold zf
    rw [Prod.mk.injEq]
    exact ⟨fun h => by omega, fun h => ⟨by omega, rfl⟩⟩) i hi
  show ((lab _ i : Nat) : Int) = ((a i : Nat) : Int)
  rw [this]
theorem labf_names {n : Nat} {a : Nat → Nat} (h : Wf n a) (y : Int) : ∀ i, i < n → labf (names a y) i = zf a i := fun i hi => by
  have := lab_names h (κ := fun j => (names a y j, (0 : Int))) (fun i j _ _ => by
    unfold names
    rw [Prod.mk.injEq]
    exact ⟨fun h => by omega, fun h => ⟨by omega, rfl⟩⟩) i hi
  show ((lab _ i : Nat) : Int) = ((a i : Nat) : Int)
  rw [this]

set_option maxRecDepth 100000 in
set_option maxHeartbeats 16000000 in
theorem covers_ok (n : Nat) (f : Nat → Int) (o : Option Addr) (cap : Nat) (y : Int) (w : World) (hLa : Lz w o n f) : Calls Try.prog 10 #[.slice o n cap, .int .i64 y] w fun e w' => e = .returned (.bool true) ∧ Below w.heap.size w w' := by
  have hx : Below w.heap.size w (w.alloc (.cells #[.slice o n cap] 22)) := (Below.refl _ _).alloc (Nat.le_refl _) _
  have HFew := good_any 1 (by decide) (by decide) (fun _ => o) (fun _ => n) (fun _ => cap) (fun _ => f) w.heap.size 1 (w.alloc (.cells #[.slice o n cap] 22)) (by simp) (by
    intro c hc
    obtain rfl : c = 0 := by omega
    exact World.cell?_alloc_mark _ _ _ (0, 0) 0) (by
    intro c hc
    exact hLa.below hx)
  rw [allb_one] at HFew
  obtain ⟨r, hr⟩ : ∃ r, goodb n f n = r := ⟨_, rfl⟩
  rw [hr] at HFew
  have HFW := Lib.hid HFew
  clear HFew
  have La := Lib.hid (hLa.below hx)
  have B := Lib.hid hx
  clear hx hLa
  cases r with
  | false =>
    clear hr
    go_enter Try.func10, Try.ntmps10
    go_wp2_with fail
    refine HFW.out.mono ?_
    rintro e W ⟨rfl, hb⟩
    replace B := Lib.hid (B.out.trans (Joins.below_le hb B.out.size))
    clear hb
    go_wp2_with fail
    refine (awake_ok _).mono ?_
    rintro e W1 ⟨rfl, hb⟩
    replace B := Lib.hid (B.out.trans (Joins.below_le hb B.out.size))
    clear hb
    go_wp2_with fail
    go_ret
    exact ⟨rfl, B.out⟩
  | true =>
    obtain ⟨hn0, hp0, _⟩ := of_decide_eq_true hr
    have G0 := (pcd_zero _ _).1 hp0
    by_cases hy : y < -1000 ∨ 1000 < y
    · clear hr hp0 G0
      rcases hy with hy | hy
      · go_enter Try.func10, Try.ntmps10
        go_wp2_with fail
        refine HFW.out.mono ?_
        rintro e W ⟨rfl, hb⟩
        replace B := Lib.hid (B.out.trans (Joins.below_le hb B.out.size))
        clear hb
        go_wp2_with fail
        refine (awake_ok _).mono ?_
        rintro e W1 ⟨rfl, hb⟩
        replace B := Lib.hid (B.out.trans (Joins.below_le hb B.out.size))
        clear hb
        go_wp2_with fail
        go_ret
        exact ⟨rfl, B.out⟩
      · have hy' : -1000 ≤ y := by omega
        go_enter Try.func10, Try.ntmps10
        go_wp2_with fail
        refine HFW.out.mono ?_
        rintro e W ⟨rfl, hb⟩
        replace B := Lib.hid (B.out.trans (Joins.below_le hb B.out.size))
        clear hb
        go_wp2_with fail
        refine (awake_ok _).mono ?_
        rintro e W1 ⟨rfl, hb⟩
        replace B := Lib.hid (B.out.trans (Joins.below_le hb B.out.size))
        clear hb
        go_wp2_with fail
        go_ret
        exact ⟨rfl, B.out⟩
    · have hy1 : -1000 ≤ y := by omega
      have hy2 : y ≤ 1000 := by omega
      clear hy
      replace La := Lib.hid (La.out.congr G0.zf)
      obtain ⟨a, ha⟩ : ∃ x, nat f = x := ⟨_, rfl⟩
      rw [ha] at La
      have Wa := Lib.hid (ha ▸ G0.2.2)
      have hN : n ≤ 65536 := by omega
      have HCl := Lib.hid (fun W (h : Lz W o n (zf a)) => classes_good n (zf a) (good_zf hN Wa.out) o cap W h)
      have HCt := Lib.hid (fun W (h : Lz W o n (zf a)) => count_n n hN a Wa.out o cap W h)
      rw [nat_zf] at HCl
      obtain ⟨k, hk⟩ : ∃ k, cnt a n = k := ⟨_, rfl⟩
      rw [hk] at HCl HCt
      have hkn : k ≤ n := hk ▸ cnt_small a n
      have HK := Lib.hid hk
      have hmk := fun w => run_bools n hN w
      clear hr hp0 G0 ha hk
      go_enter Try.func10, Try.ntmps10
      go_wp2_with fail
      refine HFW.out.mono ?_
      rintro e W ⟨rfl, hb⟩
      replace La := Lib.hid (La.out.below hb)
      replace B := Lib.hid (B.out.trans (Joins.below_le hb B.out.size))
      clear hb HFW
      go_wp2_with fail
      refine (HCl.out _ La.out).mono ?_
      rintro e W1 ⟨oL, cL, rfl, hl, hb⟩
      replace La := Lib.hid (La.out.below hb)
      replace B := Lib.hid (B.out.trans (Joins.below_le hb B.out.size))
      have HL := Lib.hid hl
      clear hb hl HCl
      go_wp2_with fail
      refine (HCt.out _ La.out).mono ?_
      rintro e w' ⟨rfl, rfl⟩
      clear HCt
      have hkk : ((k : Int) != (k : Int)) = false := by simp
      go_wp2_with fail
      clear hkk
      go_loopw [61] (fun j wr => ∃ c : Nat, c ≤ k ∧ j = .int .i64 (c : Int) ∧ Box wr W1.heap.size (vcells n (seen a n c 0)) 4 ∧ Below W1.heap.size W1 wr) (fun j _ => k - (intOf j).toNat)
      case atStart => exact ⟨0, by omega, rfl, seen_made a n ▸ Box.new W1 _ _, (Below.refl _ _).alloc (Nat.le_refl _) _⟩
      case round =>
        clear hmk
        obtain ⟨c, hc, rfl, hbx, hbe⟩ := hrel
        have HBx := Lib.hid hbx
        have HBe := Lib.hid hbe
        clear hbx hbe
        by_cases hck : c < k
        · skip
          by_cases hc0 : c = 0
          · subst hc0
            rw [show ((0 : Nat) : Int) = 0 from rfl]
            obtain ⟨bL, oL, rfl, hbL, hcells⟩ := HL.out.at_ (by omega)
            obtain ⟨oc, cc, e1, l1⟩ := hcells 0 hck
            have hmp : 0 < (memb a n 0).length := memb_pos (by rw [HK.out]; exact hck)
            obtain ⟨m, hm⟩ : ∃ m, (memb a n 0).length = m := ⟨_, rfl⟩
            have hmn : m ≤ n := hm ▸ memb_len a n 0
            have hso : ∀ j, j + 1 < m → (memb a n 0).getD j 0 ≤ (memb a n 0).getD (j + 1) 0 := fun j hj => by
              rw [List.getD_eq_getElem?_getD, List.getD_eq_getElem?_getD, List.getElem?_eq_getElem (by omega), List.getElem?_eq_getElem (by omega)]
              exact Int.le_of_lt (memb_lt (by omega) (by omega))
            rw [hm] at e1 l1 hmp
            have HM := Lib.hid hm
            have c1 := (HBe.out.cell (p := ⟨bL, oL + 0, none⟩) hbL).trans e1
            have l1' := l1.below HBe.out
            have HS := Lib.hid (fun d => Calls.quiet_of (issorted_ok m (by omega) (fun j => (memb a n 0).getD j 0) hso oc cc (wr.drewN d) (l1'.drewN d)))
            obtain ⟨bq, oq, rfl, hbq, hcq⟩ := l1 hmp
            have HLc := Lib.hid hcq
            have hm0 : ((m : Int) == 0) = false := by rw [beq_eq_false_iff_ne]; omega
            have hm0' : (m == 0) = false := by rw [beq_eq_false_iff_ne]; omega
            have hm1 : (0 : Int) < (m : Int) := by omega
            have hck1 : (0 : Int) < (k : Int) := by omega
            rw [Nat.add_zero] at c1
            clear e1 l1' hso hcells hcq hm
            go_wp2_with fail
            go_quiet ((go_at_call 36; exact HS.out _))
            go_wp2_with fail
            go_loopw [93] (fun j wr' => ∃ t : Nat, t ≤ m ∧ j = .int .i64 (t : Int) ∧ Box wr' W1.heap.size (vcells n (seen a n 0 t)) 4 ∧ Below W1.heap.size W1 wr') (fun j _ => m - (intOf j).toNat)
            case atStart => exact ⟨0, by omega, rfl, HBx.out.drewN _, below_dn _ HBe.out⟩
            case round =>
              obtain ⟨t, ht, rfl, hbx, hbe⟩ := hrel
              have HBx2 := Lib.hid hbx
              have HBe2 := Lib.hid hbe
              clear hbx hbe
              by_cases htm : t < m
              · have htl : t < (memb a n 0).length := by rw [HM.out]; exact htm
                obtain ⟨i, _, _, hi⟩ := memb_mem.1 (List.getElem_mem htl)
                obtain ⟨hin, hai, hse⟩ := seen_not htl hi
                have q1 := (HBe2.out.cell (p := ⟨bq, oq + t, none⟩) hbq).trans (HLc.out t htm)
                rw [List.getD_eq_getElem?_getD, List.getElem?_eq_getElem htl, Option.getD_some, hi] at q1
                have q2 := (HBx2.out.cell i).trans (vcells_get _ hin)
                rw [hse] at q2
                have q3 := HBx2.out.open_ i
                obtain ⟨bl, ofs, rfl, hbl, hcl⟩ := La.out (by omega)
                have q4 := (HBe2.out.cell (p := ⟨bl, ofs + i, none⟩) hbl).trans (hcl i hin)
                unfold zf at q4
                rw [hai] at q4
                have HSt := Lib.hid (seen_step htl hi)
                have hi1 : (i : Int) < (n : Int) := by omega
                have ht1 : (t : Int) < (m : Int) := by omega
                clear hcl hse hi hai htl
                go_wp2_with fail
                go_roundw
                case rel =>
                  have h1 := HBx2.out.set i (.bool true)
                  rw [vcells_set, HSt.out] at h1
                  exact ⟨t + 1, by omega, by go_num, h1, HBe2.out.setCell (by simp) _⟩
                case measure => simp [intOf]; omega
              · have e : t = m := by omega
                subst e
                clear htm
                go_wp2_with fail
                go_roundw
                case rel =>
                  refine ⟨0 + 1, by omega, by first | rfl | go_num, ?_, HBe2.out⟩
                  have h1 := HBx2.out
                  rw [← HM.out] at h1
                  exact vcells_congr (fun i hi => seen_next hi) ▸ h1
                case measure => simp [intOf] <;> omega
          · obtain ⟨c', hc'⟩ : ∃ c', c = c' + 1 := ⟨c - 1, by omega⟩
            obtain ⟨bL, oL, rfl, hbL, hcells⟩ := HL.out.at_ (by omega)
            obtain ⟨oc, cc, e1, l1⟩ := hcells c hck
            have hmp : 0 < (memb a n c).length := memb_pos (by rw [HK.out]; exact hck)
            obtain ⟨m, hm⟩ : ∃ m, (memb a n c).length = m := ⟨_, rfl⟩
            have hmn : m ≤ n := hm ▸ memb_len a n c
            have hso : ∀ j, j + 1 < m → (memb a n c).getD j 0 ≤ (memb a n c).getD (j + 1) 0 := fun j hj => by
              rw [List.getD_eq_getElem?_getD, List.getD_eq_getElem?_getD, List.getElem?_eq_getElem (by omega), List.getElem?_eq_getElem (by omega)]
              exact Int.le_of_lt (memb_lt (by omega) (by omega))
            rw [hm] at e1 l1 hmp
            have HM := Lib.hid hm
            have c1 := (HBe.out.cell (p := ⟨bL, oL + c, none⟩) hbL).trans e1
            have l1' := l1.below HBe.out
            have HS := Lib.hid (fun d => Calls.quiet_of (issorted_ok m (by omega) (fun j => (memb a n c).getD j 0) hso oc cc (wr.drewN d) (l1'.drewN d)))
            obtain ⟨bq, oq, rfl, hbq, hcq⟩ := l1 hmp
            have HLc := Lib.hid hcq
            have hm0 : ((m : Int) == 0) = false := by rw [beq_eq_false_iff_ne]; omega
            have hm0' : (m == 0) = false := by rw [beq_eq_false_iff_ne]; omega
            have hm1 : (0 : Int) < (m : Int) := by omega
            have hck1 : (c : Int) < (k : Int) := by omega
            have hck2 : (c' : Int) < (k : Int) := by omega
            obtain ⟨op, cp, e2, l2⟩ := hcells c' (by omega)
            have hpp : 0 < (memb a n c').length := memb_pos (by rw [HK.out]; omega)
            obtain ⟨bp, op', rfl, hbp, hcp⟩ := l2 hpp
            have c2 := (HBe.out.cell (p := ⟨bL, oL + c', none⟩) hbL).trans e2
            have c3 : wr.cell? ⟨bp, op' + 0, none⟩ = some (.int .i64 ((memb a n c').getD 0 0)) := (HBe.out.cell (p := ⟨bp, op' + 0, none⟩) hbp).trans (hcp 0 hpp)
            have c4 : wr.cell? ⟨bq, oq + 0, none⟩ = some (.int .i64 ((memb a n c).getD 0 0)) := (HBe.out.cell (p := ⟨bq, oq + 0, none⟩) hbq).trans (hcq 0 hmp)
            have hfi : (memb a n c').getD 0 0 < (memb a n c).getD 0 0 := by
              subst hc'
              have h1 := memb_first Wa.out (show c' + 1 < cnt a n by rw [HK.out]; exact hck)
              rw [List.getD_eq_getElem?_getD, List.getD_eq_getElem?_getD, List.getElem?_eq_getElem (by omega), List.getElem?_eq_getElem (by omega)]
              exact h1
            obtain ⟨xp, hxp⟩ : ∃ x, (memb a n c').getD 0 0 = x := ⟨_, rfl⟩
            obtain ⟨xq, hxq⟩ : ∃ x, (memb a n c).getD 0 0 = x := ⟨_, rfl⟩
            rw [hxp] at c3 hfi
            rw [hxq] at c4 hfi
            rw [Nat.add_zero] at c3 c4
            obtain ⟨mp, hmp2⟩ : ∃ x, (memb a n c').length = x := ⟨_, rfl⟩
            rw [hmp2] at c2 hpp
            have hpp1 : (0 : Int) < (mp : Int) := by omega
            have hcp1 : (0 : Int) < (c : Int) := by omega
            have hcp2 : 0 < c := by omega
            have hcp3 : decide (0 < c) = true := decide_eq_true hcp2
            have hge : decide (xq ≤ xp) = false := decide_eq_false (by omega)
            have hw : IntKind.i64.wrap ((c : Int) - 1) = (c' : Int) := by rw [IntWalk.i64_in _ (by omega)]; omega
            clear e1 e2 l2 l1' hso hcells hcq hcp hm hxp hxq hmp2 hc'
            go_wp2_with fail
            go_quiet ((go_at_call 36; exact HS.out _))
            clear hw
            go_wp2_with fail
            go_loopw [93] (fun j wr' => ∃ t : Nat, t ≤ m ∧ j = .int .i64 (t : Int) ∧ Box wr' W1.heap.size (vcells n (seen a n c t)) 4 ∧ Below W1.heap.size W1 wr') (fun j _ => m - (intOf j).toNat)
            case atStart => exact ⟨0, by omega, rfl, HBx.out.drewN _, below_dn _ HBe.out⟩
            case round =>
              obtain ⟨t, ht, rfl, hbx, hbe⟩ := hrel
              have HBx2 := Lib.hid hbx
              have HBe2 := Lib.hid hbe
              clear hbx hbe
              by_cases htm : t < m
              · have htl : t < (memb a n c).length := by rw [HM.out]; exact htm
                obtain ⟨i, _, _, hi⟩ := memb_mem.1 (List.getElem_mem htl)
                obtain ⟨hin, hai, hse⟩ := seen_not htl hi
                have q1 := (HBe2.out.cell (p := ⟨bq, oq + t, none⟩) hbq).trans (HLc.out t htm)
                rw [List.getD_eq_getElem?_getD, List.getElem?_eq_getElem htl, Option.getD_some, hi] at q1
                have q2 := (HBx2.out.cell i).trans (vcells_get _ hin)
                rw [hse] at q2
                have q3 := HBx2.out.open_ i
                obtain ⟨bl, ofs, rfl, hbl, hcl⟩ := La.out (by omega)
                have q4 := (HBe2.out.cell (p := ⟨bl, ofs + i, none⟩) hbl).trans (hcl i hin)
                unfold zf at q4
                rw [hai] at q4
                have HSt := Lib.hid (seen_step htl hi)
                have hi1 : (i : Int) < (n : Int) := by omega
                have ht1 : (t : Int) < (m : Int) := by omega
                clear hcl hse hi hai htl
                go_wp2_with fail
                go_roundw
                case rel =>
                  have h1 := HBx2.out.set i (.bool true)
                  rw [vcells_set, HSt.out] at h1
                  exact ⟨t + 1, by omega, by go_num, h1, HBe2.out.setCell (by simp) _⟩
                case measure => simp [intOf]; omega
              · have e : t = m := by omega
                subst e
                clear htm
                go_wp2_with fail
                go_roundw
                case rel =>
                  refine ⟨c + 1, by omega, by first | rfl | go_num, ?_, HBe2.out⟩
                  have h1 := HBx2.out
                  rw [← HM.out] at h1
                  exact vcells_congr (fun i hi => seen_next hi) ▸ h1
                case measure => simp [intOf] <;> omega
        · skip
          have e : c = k := by omega
          subst e
          have HAll := Lib.hid (show Box wr W1.heap.size (vcells n (fun _ => .bool true)) 4 from by
            have h := HBx.out
            rw [← HK.out] at h
            exact vcells_congr (fun i hi => seen_all Wa.out hi) ▸ h)
          replace La := Lib.hid (La.out.below HBe.out)
          replace B := Lib.hid (B.out.trans (Joins.below_le HBe.out B.out.size))
          clear HBx HBe hck HL
          obtain ⟨W2, hW2⟩ : ∃ W2 : World, W2 = wr := ⟨_, rfl⟩
          subst hW2
          go_wp2_with fail
          go_loopw [14, 126] (fun v j wr' => ∃ i : Nat, i ≤ n ∧ j = .int .i64 (i : Int) ∧ Row wr' W2.heap.size v (lsf i (names a y)) ∧ Below W2.heap.size W2 wr') (fun _ j _ => n - (intOf j).toNat)
          case atStart => exact ⟨0, by omega, rfl, Row.nil _ _, Below.refl _ _⟩
          case round =>
            obtain ⟨i, hi, rfl, hrow, hbe⟩ := hrel
            have HRow := Lib.hid hrow
            have HBe := Lib.hid hbe
            clear hrow hbe
            by_cases hlt : i < n
            · obtain ⟨bl, ofs, rfl, hbl, hcl⟩ := La.out (by omega)
              have q4 := (HBe.out.cell (p := ⟨bl, ofs + i, none⟩) hbl).trans (hcl i hlt)
              unfold zf at q4
              have hx30 : a i ≤ 65536 := by
                have h1 := Wa.out i hlt
                have h2 := cnt_small a i
                omega
              obtain ⟨x, hx⟩ : ∃ x, a i = x := ⟨_, rfl⟩
              rw [hx] at q4 hx30
              have HX := Lib.hid hx
              have hlen : (lsf i (names a y)).length = i := by simp [lsf]
              have HLen := Lib.hid hlen
              have hi1 : (i : Int) < (n : Int) := by omega
              have hs2 := HBe.out.size
              clear hcl hx hlen
              go_wp2_with (at_builtin; refine app_int _ rfl _ _ rfl W2.heap.size _ _ rfl (HRow.out.alloc _) wr.heap.size (y - 2 * (x : Int)) rfl (World.cell?_alloc_mark _ #[_] 3 (0, 0) 0) (by rw [HLen.out]; omega) (by simp; omega) ?_; intro gg cv2 w2 hr2 hbb2 hgg; rw [HLen.out] at hr2 ⊢; have HR2 := Lib.hid hr2; have HBB := Lib.hid hbb2; clear hr2 hbb2)
              go_roundw
              case rel =>
                refine ⟨i + 1, by omega, by go_num, ?_, (HBe.out.alloc hs2 _).trans HBB.out⟩
                have h1 := HR2.out
                rw [← HX.out] at h1
                exact lsf_snoc i (names a y) ▸ h1
              case measure => simp [intOf]; omega
            · have e : i = n := by omega
              subst e
              obtain ⟨ov, cv, rfl, hlk⟩ := HRow.out.shape
              have hlen : (lsf i (names a y)).length = i := by simp [lsf]
              rw [hlen] at hlk ⊢
              have Lk := Lib.hid (hlk.congr (g := names a y) (fun j hj => by simp [lsf, hj]))
              replace La := Lib.hid (La.out.below HBe.out)
              replace B := Lib.hid (B.out.trans (Joins.below_le HBe.out B.out.size))
              have hall : Box _ W1.heap.size (vcells i (fun _ => .bool true)) 4 := HAll.out.below HBe.out HAll.out.lt
              have HAl := Lib.hid hall
              clear hlen hlk HRow HBe HAll hall hlt
              go_wp2_with fail
              refine (of_okn i hN (zf a) (fun j hj => by have h1 := Wa.out j hj; have h2 := cnt_small a j; unfold zf In64; omega) o cap _ La.out).mono ?_
              intro e W3 h3
              obtain ⟨o1, c1, rfl, hl1, hb⟩ := pres_to h3 (labf_self Wa.out)
              replace La := Lib.hid (La.out.below hb)
              replace Lk := Lib.hid (Lk.out.below hb)
              replace HAl := Lib.hid (HAl.out.below hb HAl.out.lt)
              replace B := Lib.hid (B.out.trans (Joins.below_le hb B.out.size))
              have L1 := Lib.hid hl1
              clear h3 hl1 hb
              go_wp2_with fail
              refine (of_okn i hN (names a y) (fun j hj => by have h1 := Wa.out j hj; have h2 := cnt_small a j; unfold names In64; omega) ov cv _ Lk.out).mono ?_
              intro e W4 h4
              obtain ⟨o2, c2, rfl, hl2, hb⟩ := pres_to h4 (labf_names Wa.out y)
              replace La := Lib.hid (La.out.below hb)
              replace L1 := Lib.hid (L1.out.below hb)
              replace HAl := Lib.hid (HAl.out.below hb HAl.out.lt)
              replace B := Lib.hid (B.out.trans (Joins.below_le hb B.out.size))
              have L2 := Lib.hid hl2
              clear h4 hl2 hb Lk
              go_wp2_with fail
              refine (bcontains_no i hN _ _ _ (fun _ => ⟨W1.heap.size, 0, rfl, fun j hj => by rw [HAl.out.cell, Nat.zero_add, vcells_get _ hj]⟩)).mono ?_
              rintro e w' ⟨rfl, rfl⟩
              go_wp2_with fail
              refine (equal_n i hN a a (fun _ _ => rfl) _ _ _ _ _ L1.out La.out).mono ?_
              rintro e W5 ⟨rfl, hb⟩
              replace La := Lib.hid (La.out.below hb)
              replace L2 := Lib.hid (L2.out.below hb)
              replace B := Lib.hid (B.out.trans (Joins.below_le hb B.out.size))
              clear hb
              go_wp2_with fail
              refine (equal_n i hN a a (fun _ _ => rfl) _ _ _ _ _ L2.out La.out).mono ?_
              rintro e W6 ⟨rfl, hb⟩
              replace B := Lib.hid (B.out.trans (Joins.below_le hb B.out.size))
              clear hb
              go_wp2_with fail
              refine (awake_ok _).mono ?_
              rintro e W7 ⟨rfl, hb⟩
              replace B := Lib.hid (B.out.trans (Joins.below_le hb B.out.size))
              clear hb
              go_wp2_with fail
              go_ret
              exact ⟨rfl, B.out⟩
end Go.Proofs.Ytbkmcibibppjeaa
