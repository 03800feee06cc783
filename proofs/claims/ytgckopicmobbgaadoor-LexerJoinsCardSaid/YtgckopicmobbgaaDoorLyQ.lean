/- The specification: Join. -/
import Derived.Test.YtgckopicmobbgaaDoorLyJ
import Derived.Test.YtgckopicmobbgaaDoorLxJ
import Derived.Test.YtgckopicmobbgaaDoorLxO
import Derived.WalkKit
import Derived.WalkSpells
import Derived.WalkLawsBesides
import Derived.Handy
import Derived.Deep.QuietTactic
import Derived.BigQuiet
import Derived.Outline
import Derived.Laws.BitsAllLaws
import Derived.IntWalk
import Derived.Lib.SmallJoins
import Derived.Lib.Hide
import Derived.Deep.DeepCutAuto
import Derived.LoopTactic
import Derived.Deep.RegionWith
import Derived.Lib.ConvBytes
import Derived.OwnWalk
import Derived.Laws.MakeOwn
import Derived.Laws.IdiomStrings
import Derived.Deep.RegionHeld3
namespace Go.Proofs.YtgckopicmobbgaaDoor
set_option linter.unusedVariables false
set_option linter.unusedSimpArgs false
open Go.RowKit Lex

theorem mk_nil : mk [] = ({ data := #[] } : ByteArray) := rfl
theorem ba_empty (a : ByteArray) : a ++ ({ data := #[] } : ByteArray) = a := by
  apply ByteArray.ext
  rw [ByteArray.data_append]
  simp
theorem chkJ_fit : ∀ (l : List Tj), chkJ l = 0 → ∀ t ∈ l, fitB t.kd.toNat t.tx = true
  | [], _, t, ht => by simp at ht
  | a :: r, h, t, ht => by
    rw [chkJ_cons] at h
    cases hb : badK a.kd with
    | true => rw [hb, if_pos rfl] at h; cases h
    | false =>
      rw [hb, if_neg (by decide)] at h
      cases hf : fitB a.kd.toNat a.tx with
      | false => rw [hf] at h; cases h
      | true =>
        rw [hf, if_neg (by decide)] at h
        split at h
        · cases h
        · rcases List.mem_cons.1 ht with rfl | ht
          · exact hf
          · exact chkJ_fit r h t ht
theorem apB_sep {k k' : Nat} (hk : k ≤ 3) (hk' : k' ≤ 3) {a c : List Nat} (ha : fitB k a = true) (hc : fitB k' c = true) : apB a c = sepJ k a k' c := apB_eq hk hk' ha hc
set_option maxRecDepth 100000 in
set_option maxHeartbeats 8000000 in
theorem rjoin (l : List Tj) (hl : FewJ l) (o : Option Addr) (cap : Nat) (w : World) (hL : Lt w o l) : Calls Tryd.prog 17 #[.slice o l.length cap] w (JRes (joinV l) w) := by
  have HL := Lib.hid hL
  have HF := Lib.hid hl
  have HFit := Lib.hid (fun k hk s hs w => rtext k hk s hs w)
  have HAp := Lib.hid (fun s t hs ht w => rapart s t hs ht w)
  obtain ⟨n, hn⟩ : ∃ n, l.length = n := ⟨_, rfl⟩
  have hn3 : n ≤ 300 := by rw [← hn]; exact hl.len
  have HN := Lib.hid hn
  have hn0 : ¬ (65536 : Int) < (n : Int) := by omega
  rw [hn]
  clear hL hl hn
  go_enter Tryd.func17, Tryd.ntmps17
  go_wp2_with fail
  go_loopw [4] (fun j wr => ∃ i : Nat, i ≤ n ∧ j = .int .i64 (i : Int) ∧ Below w.heap.size w wr ∧ chkJ (l.drop i) = chkJ l) (fun j _ => n - (intOf j).toNat)
  case atStart => exact ⟨0, by omega, by first | trivial | rfl, Below.refl _ _, by rw [List.drop_zero]⟩
  case round =>
    obtain ⟨i, hi, rfl, hbe, hck⟩ := hrel
    by_cases hlt : i < n
    · have hi1 : (i : Int) < (n : Int) := by omega
      have hi0 : (0 : Int) ≤ (i : Int) := by omega
      have hil : i < l.length := by rw [HN.out]; exact hlt
      obtain ⟨bl_, of, rfl, hblt, hcl⟩ := (HL.out.below hbe) (by omega)
      obtain ⟨hc0, hc1, hc2⟩ := hcl i hil
      have hdr := dropJ hil
      have htx := HF.out.tx _ (memJ hil)
      have hby := HF.out.byte _ (memJ hil)
      have hkd := HF.out.kd _ (memJ hil)
      rw [hdr] at hck
      rw [chkJ_cons] at hck
      have hrn : l.drop (i + 1) ≠ [] ↔ i + 1 < n := by
        rw [← HN.out]
        constructor
        · intro h
          rcases Nat.lt_or_ge (i + 1) l.length with h2 | h2
          · exact h2
          · exact absurd (List.drop_eq_nil_of_le h2) h
        · intro h e
          have := congrArg List.length e
          rw [List.length_drop] at this
          simp at this
          omega
      obtain ⟨t, ht⟩ : ∃ t, l.getD i default = t := ⟨_, rfl⟩
      obtain ⟨kd, tx, pl⟩ := t
      rw [ht] at hc0 hc1 hc2 hck htx hby hkd
      dsimp only at hc0 hc1 hc2 hck htx hby hkd
      have hbm := bl_mk hby
      have hms : (mk tx).size ≤ 1000000 := by rw [mk_size]; omega
      obtain ⟨tb, htb⟩ : ∃ tb, mk tx = tb := ⟨_, rfl⟩
      rw [htb] at hc1 hbm hms
      have HBe := Lib.hid hbe
      have HRn := Lib.hid hrn
      have HCk := Lib.hid hck
      cases hbk : badK kd with
      | true =>
        have hck2 := HCk.out
        rw [hbk, if_pos rfl] at hck2
        have HC := Lib.hid hck2
        have hor : kd < 0 ∨ 3 < kd := by unfold badK at hbk; simpa using hbk
        clear hcl hdr htx hby hbm hms htb hbe hrn hck hbk hck2 ht hil HCk HRn
        rcases hor with h | h
        · go_wp2_with fail
          go_ret2
          exact ⟨by unfold joinV; rw [← HC.out]; rfl, HBe.out⟩
        · have h0 : ¬ kd < 0 := by omega
          go_wp2_with fail
          go_ret2
          exact ⟨by unfold joinV; rw [← HC.out]; rfl, HBe.out⟩
      | false =>
        have hk := badK_no hbk
        obtain ⟨k, rfl⟩ : ∃ k : Nat, kd = (k : Int) := ⟨kd.toNat, by omega⟩
        have hk3 : k ≤ 3 := by omega
        have hk0 : ¬ (k : Int) < 0 := by omega
        have hk4 : ¬ (3 : Int) < (k : Int) := by omega
        have hck2 := HCk.out
        rw [hbk, if_neg (by decide)] at hck2
        rw [show ((k : Int).toNat) = k from rfl] at hck2
        have hfit := HFit.out k hk3 tb hms
        rw [hbm] at hfit
        obtain ⟨z, hz⟩ : ∃ z, fitB k tx = z := ⟨_, rfl⟩
        rw [hz] at hfit hck2
        have HFt := Lib.hid hfit
        have HCk2 := Lib.hid hck2
        have HZ := Lib.hid (fun V (hV : Below wr.heap.size wr V) => show Below wr.heap.size wr V ∧ V.cell? ⟨bl_, of + i * 3, none⟩ = some (.int .i64 (k : Int)) ∧ V.cell? ⟨bl_, of + i * 3 + 1, none⟩ = some (.string tb) from ⟨hV, (hV.cell (p := ⟨bl_, _, none⟩) hblt).trans hc0, (hV.cell (p := ⟨bl_, _, none⟩) hblt).trans hc1⟩)
        clear hcl hdr htx hby hbm hms htb hbe hrn hck hbk hck2 ht hil hfit HCk hz
        go_wp2_with fail
        go_cut [41] (fun x wx => x = .bool (!z) ∧ Below wr.heap.size wr wx)
        case first =>
          go_region_held3 (fun V => Below wr.heap.size wr V ∧ V.cell? ⟨bl_, of + i * 3, none⟩ = some (.int .i64 (k : Int)) ∧ V.cell? ⟨bl_, of + i * 3 + 1, none⟩ = some (.string tb)) (first | exact HZ.out _ (below_dn 1 (Below.refl _ _)) | exact HZ.out _ (Below.refl _ _) | exact HZ.out _ (by assumption)) (first | (go_at_call 49; refine (HFt.out _).mono ?_; rintro e y ⟨rfl, hz⟩; have kk1 : Below wr.heap.size wr y := Below.trans (by first | assumption | exact And.left (by assumption) | exact Below.refl _ _ | exact below_dn 1 (Below.refl _ _)) (Joins.below_le hz (Below.size (by first | assumption | exact And.left (by assumption) | exact Below.refl _ _ | exact below_dn 1 (Below.refl _ _))))) | fail)
          all_goals
            go_wp2_with fail
            go_meet
            exact ⟨rfl, by first | assumption | exact below_dn 1 (by assumption) | exact below_dn 1 (Below.refl _ _)⟩
        case rest =>
          obtain ⟨rfl, hb⟩ := hcut
          have HB2 := Lib.hid (HBe.out.trans (Joins.below_le hb HBe.out.size))
          have hc0 := (hb.cell (p := ⟨bl_, of + i * 3, none⟩) hblt).trans hc0
          have hblt2 := Nat.lt_of_lt_of_le hblt hb.size
          clear hb HZ
          cases z with
          | false =>
            have HC := Lib.hid (show 3 = chkJ l from HCk2.out)
            clear HCk2
            go_wp2_with fail
            go_ret2
            exact ⟨by unfold joinV; rw [← HC.out]; rfl, HB2.out⟩
          | true =>
            have hck2 := HCk2.out
            rw [if_neg (by decide)] at hck2
            by_cases hend : k = 3 ∧ i + 1 < n
            · rw [if_pos ⟨by omega, HRn.out.2 hend.2⟩] at hck2
              have HC := Lib.hid hck2
              obtain ⟨rfl, he2⟩ := hend
              have hne : (i : Int) < (n : Int) - 1 := by omega
              clear hck2 HCk2 HRn
              go_wp2_with fail
              go_ret2
              exact ⟨by unfold joinV; rw [← HC.out]; rfl, HB2.out⟩
            · have hck3 : chkJ (l.drop (i + 1)) = chkJ l := by
                rw [if_neg (fun h => hend ⟨by omega, HRn.out.1 h.2⟩)] at hck2
                exact hck2
              have HC := Lib.hid hck3
              clear hck2 HCk2 HRn hck3
              by_cases hk33 : k = 3
              · subst hk33
                have hne : ¬ (i : Int) < (n : Int) - 1 := by omega
                clear hend
                go_wp2_with fail
                go_roundw
                case rel => exact ⟨i + 1, by omega, by go_num, HB2.out, HC.out⟩
                case measure => simp [intOf]; omega
              · have hk5 : ((k : Int) == 3) = false := by rw [beq_eq_false_iff_ne]; omega
                have hk6 : ¬ (k : Int) = 3 := by omega
                clear hend hk33
                go_wp2_with fail
                go_roundw
                case rel => exact ⟨i + 1, by omega, by go_num, HB2.out, HC.out⟩
                case measure => simp [intOf]; omega
    · obtain rfl : i = n := by omega
      have hc0 : chkJ l = 0 := by
        rw [← hck, List.drop_eq_nil_of_le (by rw [HN.out]; exact Nat.le_refl _)]
        rfl
      have HC0 := Lib.hid hc0
      have HBad := Lib.hid (chkJ_all l hc0)
      have HFs := Lib.hid (chkJ_fit l hc0)
      have HJl := Lib.hid (jt_len l HF.out.tx)
      have HBe := Lib.hid hbe
      clear hbe hck hlt hc0 HFit
      go_wp2_with fail
      go_loopw [5, 6] (fun v j wl => ∃ q : Nat, q ≤ i ∧ j = .int .i64 (q : Int) ∧ v = .string (mk (jt l q)) ∧ Below w.heap.size w wl) (fun _ j _ => i - (intOf j).toNat)
      case atStart => exact ⟨0, by omega, by first | trivial | rfl, by first | trivial | rfl, HBe.out⟩
      case round =>
        obtain ⟨q, hq, rfl, rfl, hbe⟩ := hrel
        by_cases hlt : q < i
        · have hq1 : (q : Int) < (i : Int) := by omega
          have hq0 : (0 : Int) ≤ (q : Int) := by omega
          have hql : q < l.length := by rw [HN.out]; exact hlt
          obtain ⟨bl_, of, rfl, hblt, hcl⟩ := (HL.out.below hbe) (by omega)
          obtain ⟨hc0, hc1, hc2⟩ := hcl q hql
          have htx := HF.out.tx _ (memJ hql)
          have hby := HF.out.byte _ (memJ hql)
          have hbq := badK_no (HBad.out _ (memJ hql))
          have hfq := HFs.out _ (memJ hql)
          have hjl := HJl.out (q + 1) (by omega)
          have hjl0 := HJl.out q (by omega)
          have hjs : jt l (q + 1) = jt l q ++ gapJ l q ++ (l.getD q default).tx := rfl
          have hprev : 0 < q → ∃ tp : ByteArray, tp.size ≤ 1000000 ∧ wr.cell? ⟨bl_, of + (q - 1) * 3 + 1, none⟩ = some (.string tp) ∧ gapJ l q = if apB (bl tp) (l.getD q default).tx = true then [32] else [] := fun h0 => by
            have hpl : q - 1 < l.length := by omega
            obtain ⟨e0, e1, e2⟩ := hcl (q - 1) (by omega)
            have hbp := badK_no (HBad.out _ (memJ hpl))
            have hfp := HFs.out _ (memJ hpl)
            have hbyp := HF.out.byte _ (memJ hpl)
            have htxp := HF.out.tx _ (memJ hpl)
            refine ⟨mk (l.getD (q - 1) default).tx, by rw [mk_size]; omega, e1, ?_⟩
            rw [bl_mk hbyp, apB_sep (by omega) (by omega) hfp hfq]
            unfold gapJ
            by_cases hs : sepJ (l.getD (q - 1) default).kd.toNat (l.getD (q - 1) default).tx (l.getD q default).kd.toNat (l.getD q default).tx = true
            · rw [if_pos hs, if_pos ⟨by omega, hs⟩]
            · rw [if_neg hs, if_neg (fun h => hs h.2)]
          have hg0 : q = 0 → gapJ l q = [] := fun h0 => by
            unfold gapJ
            rw [if_neg (fun h => h.1 h0)]
          obtain ⟨g, hg⟩ : ∃ g, gapJ l q = g := ⟨_, rfl⟩
          rw [hg] at hjs hprev hg0
          obtain ⟨t, ht⟩ : ∃ t, l.getD q default = t := ⟨_, rfl⟩
          obtain ⟨kd, tx, pl⟩ := t
          rw [ht] at hc0 hc1 hc2 htx hby hbq hprev hjs
          dsimp only at hc0 hc1 hc2 htx hby hbq hprev hjs
          have hbm := bl_mk hby
          have hms : (mk tx).size ≤ 1000000 := by rw [mk_size]; omega
          have hjm : mk (jt l (q + 1)) = mk (jt l q) ++ mk g ++ mk tx := by rw [hjs, mk_app, mk_app]
          have hj1 : (mk (jt l (q + 1))).size ≤ 60300 := by rw [mk_size]; omega
          have hj0 : (mk (jt l q)).size ≤ 60300 := by rw [mk_size]; omega
          have hm2 : (mk tx).size ≤ 200 := by rw [mk_size]; omega
          obtain ⟨tb, htb⟩ : ∃ tb, mk tx = tb := ⟨_, rfl⟩
          obtain ⟨ja, hja⟩ : ∃ ja, mk (jt l q) = ja := ⟨_, rfl⟩
          obtain ⟨jb, hjb⟩ : ∃ jb, mk (jt l (q + 1)) = jb := ⟨_, rfl⟩
          rw [htb] at hc1 hbm hms hjm hm2
          rw [hja] at hjm hj0 ⊢
          rw [hjb] at hjm hj1
          have HJm := Lib.hid hjm
          have HJb := Lib.hid hjb
          have HBm := Lib.hid hbm
          have HBl := Lib.hid hbe
          have HPrev := Lib.hid hprev
          have HG0 := Lib.hid hg0
          have HJ1 := Lib.hid hj1
          clear hcl htx hby hbq hfq hjl hjl0 hjs hprev hg0 hg ht hbm htb hja hjb hjm hbe hj1 hql
          by_cases hq00 : q = 0
          · subst hq00
            rw [Nat.zero_mul, Nat.add_zero] at hc0 hc1 hc2
            have hgn := HG0.out rfl
            subst hgn
            have HSz := Lib.hid (show ja ++ tb = jb by rw [HJm.out, mk_nil, ba_empty])
            have hjj : ¬ (65536 : Int) < (jb.size : Int) := by have := HJ1.out; omega
            have hjt : (ja ++ tb).size = jb.size := by rw [HSz.out]
            rw [Nat.zero_add] at HJb
            clear HPrev HG0
            go_wp2_with fail
            go_cut [76] (fun x wx => x = .bool false ∧ Below wr.heap.size wr wx)
            case first =>
              go_quiet (fail)
              all_goals
                go_wp2_with fail
                go_meet
                exact ⟨rfl, by first | exact below_dn _ (Below.refl _ _) | exact below_dn _ (by assumption)⟩
            case rest =>
              obtain ⟨rfl, hb⟩ := hcut
              have HB2 := Lib.hid (HBl.out.trans (Joins.below_le hb HBl.out.size))
              have hc1 := (hb.cell (p := ⟨bl_, of + 1, none⟩) hblt).trans hc1
              have hblt2 := Nat.lt_of_lt_of_le hblt hb.size
              clear hb
              go_wp2_with fail
              go_roundw
              case rel => exact ⟨1, by omega, by go_num, by rw [HJb.out, HSz.out], HB2.out⟩
              case measure => simp [intOf]; omega
          · obtain ⟨tp, htp, e1, hgv⟩ := HPrev.out (by omega)
            have hq01 : 0 < q := by omega
            have hq02 : (0 : Int) < (q : Int) := by omega
            obtain ⟨r, hr⟩ : ∃ r, q - 1 = r := ⟨_, rfl⟩
            rw [hr] at e1
            have hqw : IntKind.i64.wrap ((q : Int) - 1) = (r : Int) := by rw [IntWalk.i64_in _ (by omega)]; omega
            have hri : (r : Int) < (i : Int) := by omega
            have hrn : r < i := by omega
            have hr0 : (0 : Int) ≤ (r : Int) := by omega
            have HTog := Lib.hid (fun W => HAp.out tp tb htp hms W)
            rw [HBm.out] at HTog
            obtain ⟨z, hz⟩ : ∃ z, apB (bl tp) tx = z := ⟨_, rfl⟩
            rw [hz] at hgv HTog
            have HZ := Lib.hid (fun V (hV : Below wr.heap.size wr V) => show Below wr.heap.size wr V ∧ V.cell? ⟨bl_, of + r * 3 + 1, none⟩ = some (.string tp) ∧ V.cell? ⟨bl_, of + q * 3 + 1, none⟩ = some (.string tb) from ⟨hV, (hV.cell (p := ⟨bl_, _, none⟩) hblt).trans e1, (hV.cell (p := ⟨bl_, _, none⟩) hblt).trans hc1⟩)
            clear HPrev HG0 hz hr hq00
            go_wp2_with fail
            go_cut [76] (fun x wx => x = .bool z ∧ Below wr.heap.size wr wx)
            case first =>
              go_region_held3 (fun V => Below wr.heap.size wr V ∧ V.cell? ⟨bl_, of + r * 3 + 1, none⟩ = some (.string tp) ∧ V.cell? ⟨bl_, of + q * 3 + 1, none⟩ = some (.string tb)) (first | exact HZ.out _ (below_dn 1 (Below.refl _ _)) | exact HZ.out _ (Below.refl _ _) | exact HZ.out _ (by assumption)) (first | (go_at_call 50; refine (HTog.out _).mono ?_; rintro e y ⟨rfl, rfl⟩) | fail)
              all_goals
                go_wp2_with fail
                go_meet
                exact ⟨rfl, by first | assumption | exact below_dn 1 (by assumption) | exact below_dn 1 (Below.refl _ _)⟩
            case rest =>
              obtain ⟨rfl, hb⟩ := hcut
              have HB2 := Lib.hid (HBl.out.trans (Joins.below_le hb HBl.out.size))
              have hc1 := (hb.cell (p := ⟨bl_, of + q * 3 + 1, none⟩) hblt).trans hc1
              have hblt2 := Nat.lt_of_lt_of_le hblt hb.size
              clear hb HZ hri hrn hr0 hqw
              cases z with
              | false =>
                rw [if_neg (by decide)] at hgv
                subst hgv
                have HSz := Lib.hid (show ja ++ tb = jb by rw [HJm.out, mk_nil, ba_empty])
                have hjj : ¬ (65536 : Int) < (jb.size : Int) := by have := HJ1.out; omega
                have hjt : (ja ++ tb).size = jb.size := by rw [HSz.out]
                go_wp2_with fail
                go_roundw
                case rel => exact ⟨q + 1, by omega, by go_num, by rw [HJb.out, HSz.out], HB2.out⟩
                case measure => simp [intOf]; omega
              | true =>
                rw [if_pos rfl] at hgv
                subst hgv
                have HSz := Lib.hid (show ja ++ ({ data := #[32] } : ByteArray) ++ tb = jb by rw [HJm.out]; rfl)
                have hjj : ¬ (65536 : Int) < (jb.size : Int) := by have := HJ1.out; omega
                have hjt : (ja ++ ({ data := #[32] } : ByteArray) ++ tb).size = jb.size := by rw [HSz.out]
                go_wp2_with fail
                go_roundw
                case rel => exact ⟨q + 1, by omega, by go_num, by rw [HJb.out, HSz.out], HB2.out⟩
                case measure => simp [intOf]; omega
        · obtain rfl : q = i := by omega
          have HBl := Lib.hid hbe
          clear hbe hlt
          go_wp2_with fail
          exact bodyPost_ret (v := .tuple #[.string (mk (jt l q)), .int .i64 0]) (by simp [results, Tryd.results17, go_sem]) rfl ⟨by unfold joinV; rw [if_pos HC0.out, HN.out]; rfl, HBl.out⟩

end Go.Proofs.YtgckopicmobbgaaDoor
