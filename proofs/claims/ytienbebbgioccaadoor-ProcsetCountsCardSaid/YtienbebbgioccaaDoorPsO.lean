/- The specification of procset: numbers. -/
import Derived.Test.YtienbebbgioccaaDoorPsN
import Derived.WalkKit
import Derived.WalkSpells
import Derived.WalkLawsBesides
import Derived.Handy
import Derived.Deep.QuietTactic
import Derived.BigQuiet
import Derived.Outline
import Derived.Laws.BitsAllLaws
import Derived.IntWalk
import Derived.Lib.SmallJoins
import Derived.Lib.Hide
import Derived.Deep.DeepCutAuto
import Derived.LoopTactic
import Derived.Deep.RegionWith
namespace Go.Proofs.YtienbebbgioccaaDoor
set_option linter.unusedVariables false
set_option linter.unusedSimpArgs false
open Go.RowKit

/-- What numbers answers. -/
def NRes (s : ByteArray) (B : Nat) (w : World) (e : Ending) (w' : World) : Prop := Below B w w' ∧ match dgz s with
  | none => ∃ v, e = .returned (.tuple #[v, .bool false])
  | some l => ∃ v, e = .returned (.tuple #[v, .bool true]) ∧ LiesI w' v l
theorem nres_no {s : ByteArray} {B : Nat} {w w' : World} {v : Value} {b : Bool} (h : dgz s = none) (hb : Below B w w') (h0 : b = false) : NRes s B w (.returned (.tuple #[v, .bool b])) w' := by
  subst h0; refine ⟨hb, ?_⟩; rw [h]; exact ⟨v, rfl⟩
theorem nres_yes {s : ByteArray} {B : Nat} {w w' : World} {l : List Nat} {v : Value} {b : Bool} (h : dgz s = some l) (hb : Below B w w') (hl : LiesI w' v l) (h0 : b = true) : NRes s B w (.returned (.tuple #[v, .bool b])) w' := by
  subst h0; refine ⟨hb, ?_⟩; rw [h]; exact ⟨v, rfl, hl⟩
theorem inn_len (s : ByteArray) (h : 2 ≤ s.size) : (inn s).data.toList.length = s.size - 2 := by
  have e : (inn s).data.toList.length = (inn s).size := by rw [Array.length_toList]; rfl
  rw [e]; unfold inn; rw [ByteArray.size_extract]; omega
theorem inn_drop (s : ByteArray) (i : Nat) (h1 : 1 ≤ i) (h2 : i + 1 < s.size) : (inn s).data.toList.drop (i - 1) = s[i] :: (inn s).data.toList.drop (i + 1 - 1) := by
  have hl : i - 1 < (inn s).data.toList.length := by rw [inn_len s (by omega)]; omega
  rw [List.drop_eq_getElem_cons hl, show i - 1 + 1 = i + 1 - 1 by omega]
  congr 1
  have e : (inn s).data = s.data.extract 1 (s.size - 1) := by unfold inn; exact ByteArray.data_extract
  have h3 : (inn s).data.toList[i - 1]? = some s[i] := by
    rw [e, Array.getElem?_toList, Array.getElem?_extract, if_pos (by have : s.data.size = s.size := rfl; omega), show 1 + (i - 1) = i by omega]
    exact Array.getElem?_eq_getElem (by have : s.data.size = s.size := rfl; omega)
  rw [List.getElem?_eq_getElem hl] at h3
  injection h3
/-- What is still to be read behind the numbers read so far. -/
def Left (s : ByteArray) (i : Nat) (acc : List Nat) : Prop := altb true (inn s).data.toList = (altb (i % 2 == 1) ((inn s).data.toList.drop (i - 1))).map (acc ++ ·)
theorem left_start (s : ByteArray) : Left s 1 [] := by
  show _ = (altb true _).map _
  rw [Nat.sub_self, List.drop_zero]
  cases altb true (inn s).data.toList <;> simp
theorem altb_d {b : UInt8} {r : List UInt8} {d : Nat} (h : dgt b = some d) : altb true (b :: r) = (altb false r).map (d :: ·) := by
  show (match dgt b with | some d => (altb false r).map (d :: ·) | none => none) = _
  rw [h]
theorem altb_x {b : UInt8} {r : List UInt8} (h : dgt b = none) : altb true (b :: r) = none := by
  show (match dgt b with | some d => (altb false r).map (d :: ·) | none => none) = _
  rw [h]
theorem altb_c {c : UInt8} {r : List UInt8} (h : c = 44) : altb false (c :: r) = altb true r := by
  show (if c = 44 then altb true r else none) = _
  rw [if_pos h]
theorem altb_o {c : UInt8} {r : List UInt8} (h : c ≠ 44) : altb false (c :: r) = none := by
  show (if c = 44 then altb true r else none) = _
  rw [if_neg h]
theorem left_digit {s : ByteArray} {i : Nat} {acc : List Nat} (h : Left s i acc) (h1 : 1 ≤ i) (h2 : i + 1 < s.size) (ho : i % 2 = 1) {d : Nat} (hd : dgt s[i] = some d) : Left s (i + 1) (acc ++ [d]) := by
  unfold Left at *
  rw [h, inn_drop s i h1 h2, show (i % 2 == 1) = true by simp [ho], show ((i + 1) % 2 == 1) = false by simp; omega, altb_d hd, Option.map_map]
  congr 1
  funext x
  simp
theorem left_bad {s : ByteArray} {i : Nat} {acc : List Nat} (h : Left s i acc) (h1 : 1 ≤ i) (h2 : i + 1 < s.size) (ho : i % 2 = 1) (hd : dgt s[i] = none) : altb true (inn s).data.toList = none := by
  unfold Left at h
  rw [h, inn_drop s i h1 h2, show (i % 2 == 1) = true by simp [ho], altb_x hd]; rfl
theorem left_comma {s : ByteArray} {i : Nat} {acc : List Nat} (h : Left s i acc) (h1 : 1 ≤ i) (h2 : i + 1 < s.size) (ho : i % 2 = 0) (hd : s[i] = 44) : Left s (i + 1) acc := by
  unfold Left at *
  rw [h, inn_drop s i h1 h2, show (i % 2 == 1) = false by simp [ho], show ((i + 1) % 2 == 1) = true by simp; omega, altb_c hd]
theorem left_other {s : ByteArray} {i : Nat} {acc : List Nat} (h : Left s i acc) (h1 : 1 ≤ i) (h2 : i + 1 < s.size) (ho : i % 2 = 0) (hd : s[i] ≠ 44) : altb true (inn s).data.toList = none := by
  unfold Left at h
  rw [h, inn_drop s i h1 h2, show (i % 2 == 1) = false by simp [ho], altb_o hd]; rfl
theorem left_end {s : ByteArray} {i : Nat} {acc : List Nat} (h : Left s i acc) (hi : i + 1 = s.size) (h2 : 2 ≤ s.size) : altb true (inn s).data.toList = if s.size % 2 = 1 then some acc else none := by
  unfold Left at h
  rw [h, List.drop_eq_nil_of_le (by rw [inn_len s h2]; omega)]
  by_cases ho : i % 2 = 1
  · rw [show (i % 2 == 1) = true by simp [ho], if_neg (by omega)]; rfl
  · rw [show (i % 2 == 1) = false by simp; omega, if_pos (by omega)]
    show some (acc ++ []) = _
    rw [List.append_nil]
theorem b44 {b : UInt8} : b = 44 ↔ b.toNat = 44 := by
  constructor
  · intro h; rw [h]; rfl
  · intro h; exact UInt8.toNat.inj h

set_option maxRecDepth 100000 in
set_option maxHeartbeats 8000000 in
theorem numbers_any (s : ByteArray) (hs : s.size ≤ 1000000) (w : World) : Calls Tryd.prog 52 #[.string s] w (NRes s w.heap.size w) := by
  by_cases h2 : 2 ≤ s.size
  · by_cases h0 : s[0].toNat = 123
    · by_cases h1 : s[s.size - 1].toNat = 125
      · have hbr : Braced s := ⟨h2, (fst_eq (by omega)).trans h0, (lst_eq (by omega)).trans h1⟩
        have hi0 : (s[0].toNat : Int) = 123 := by omega
        have hi1 : (s[s.size - 1].toNat : Int) = 125 := by omega
        have h2i : (2 : Int) ≤ (s.size : Int) := by omega
        have hil := inn_len s h2
        by_cases hz : s.size = 2
        · have he : (inn s).data.toList = [] := List.length_eq_zero_iff.1 (by omega)
          have Hd : Hid (dgz s = some []) := Lib.hid (by unfold dgz; rw [if_pos hbr, if_pos he])
          have hi1' : (s[1].toNat : Int) = 125 := by
            have e : s[s.size - 1] = s[1] := by congr 1; omega
            rw [← e]; exact hi1
          have hzi : (s.size : Int) = 2 := by omega
          clear hbr he h0 h1 hil hz
          go_enter Tryd.func52, Tryd.ntmps52
          go_wp2_with fail
          go_ret2
          exact nres_yes Hd.out (Below.refl _ _) ⟨.inl ⟨rfl, rfl⟩⟩ rfl
        · have he : (inn s).data.toList ≠ [] := fun h => by rw [h] at hil; simp at hil; omega
          have Hd : Hid (dgz s = altb true (inn s).data.toList) := Lib.hid (by unfold dgz; rw [if_pos hbr, if_neg he, ptl_alt])
          have hzi : (2 : Int) < (s.size : Int) := by omega
          obtain ⟨i0, hi, hz0, hz1, hz2⟩ := info_parts infoI
          obtain ⟨R0, hR0⟩ : ∃ R, w.heap.size = R := ⟨_, rfl⟩
          have HR := Lib.hid hR0
          rw [hR0]
          clear hbr he h0 h1 hil hR0
          go_enter Tryd.func52, Tryd.ntmps52
          go_wp2_with fail
          clear hi0 hi1
          have hzb : ((s.size : Int) == 2) = false := by rw [beq_eq_false_iff_ne]; omega
          try rw [hzb]
          clear hzb
          go_loopw [4, 5] (fun v j wr => ∃ (i : Nat) (acc : List Nat), 1 ≤ i ∧ i + 1 ≤ s.size ∧ acc.length ≤ i ∧ j = .int .i64 (i : Int) ∧ Below R0 w wr ∧ wr.ownsRow R0 3 1 v acc.length (cellsI acc) ∧ Left s i acc) (fun _ j _ => s.size - (intOf j).toNat)
          case atStart => exact ⟨1, [], by omega, by omega, by simp, rfl, Below.refl _ _, World.ownsRow_nil _ _ _ _, left_start s⟩
          case round =>
            obtain ⟨i, acc, hi1, hile, hal, rfl, hB, hO, hleft⟩ := hrel
            have HB := Lib.hid hB
            have HO := Lib.hid hO
            have HL := Lib.hid hleft
            clear hB hO hleft
            by_cases hlt : i + 1 < s.size
            · have hli : (i : Int) < (s.size : Int) - 1 := by omega
              have hb8 : s[i].toNat < 256 := s[i].toNat_lt
              by_cases ho : i % 2 = 1
              · have hr1 : (i : Int) % 2 = 1 := by omega
                have hr2 : Int.tmod (i : Int) 2 = 1 := by rw [Int.tmod_eq_emod_of_nonneg (by omega)]; omega
                have Hyes : Hid (∀ k, dgt s[i] = some k → Left s (i + 1) (acc ++ [k])) := Lib.hid (fun k hk => left_digit HL.out hi1 hlt ho hk)
                have Hno : Hid (dgt s[i] = none → dgz s = none) := Lib.hid (fun hk => Hd.out.trans (left_bad HL.out hi1 hlt ho hk))
                have hdg : dgt s[i] = if 48 ≤ s[i].toNat ∧ s[i].toNat ≤ 57 then some (s[i].toNat - 48) else none := rfl
                obtain ⟨o, hoo⟩ : ∃ o, dgt s[i] = o := ⟨_, rfl⟩
                rw [hoo] at Hyes Hno hdg
                obtain ⟨b, hb⟩ : ∃ b, s[i].toNat = b := ⟨_, rfl⟩
                have hbi : (s[i].toNat : Int) = (b : Int) := by omega
                rw [hb] at hdg hb8
                clear hb hoo ho
                by_cases hg : 48 ≤ b ∧ b ≤ 57
                · rw [if_pos hg] at hdg
                  obtain ⟨hg1, hg2⟩ := hg
                  obtain ⟨k, hk⟩ : ∃ k, b - 48 = k := ⟨_, rfl⟩
                  have hki : (b : Int) - 48 = (k : Int) := by omega
                  rw [hk] at hdg
                  have HN := Lib.hid (Hyes.out k hdg)
                  clear hdg hk
                  go_wp2_with (at_builtin; refine wpList_append_own _ rfl _ _ 27 rfl R0 3 i0 (.int .i64 0) 1 8 Tryd.underlying27 hi hz0 hz1 hz2 rfl (by decide) _ _ _ rfl (HO.out.alloc _) ⟨wr.heap.size, 0, none⟩ 1 1 [.int .i64 (k : Int)] rfl rfl ?c1 ?c2 ?c3 ?c4 ?c5 ?_)
                  case c1 => exact cell_one_new _ _ _
                  case c2 => intro u hu; simp at hu; rw [hu]; rfl
                  case c3 => unfold maxLen; omega
                  case c4 => omega
                  case c5 => have h1 := HB.out.size; have h2 := HR.out; simp; omega
                  intro v' w1 hown' hgrow hnil
                  have HO2 := Lib.hid (show w1.ownsRow R0 3 1 v' (acc ++ [k]).length (cellsI (acc ++ [k])) from by
                    rw [List.length_append, cellsI_app]
                    exact hown')
                  have HB2 := Lib.hid ((HB.out.alloc (by have h1 := HB.out.size; have h2 := HR.out; omega) _).grown hgrow (by have h1 := HB.out.size; have h2 := HR.out; simp; omega) (fun k hk => (HO.out.lt k hk).1))
                  clear hown' hgrow hnil HO HB
                  go_wp2_with fail
                  go_roundw
                  case rel => exact ⟨i + 1, acc ++ [k], by omega, by omega, by simp; omega, by go_num, HB2.out, HO2.out, HN.out⟩
                  case measure => simp [intOf]; omega
                · rw [if_neg hg] at hdg
                  have HN := Lib.hid (Hno.out hdg)
                  clear hdg HO
                  by_cases hg1 : b < 48
                  · clear hg
                    go_wp2_with fail
                    go_ret2
                    exact nres_no HN.out HB.out rfl
                  · have hg3 : 48 ≤ b := by omega
                    have hg2 : 57 < b := by omega
                    clear hg hg1
                    go_wp2_with fail
                    go_ret2
                    exact nres_no HN.out HB.out rfl
              · have hr1 : (i : Int) % 2 = 0 := by omega
                have hr2 : Int.tmod (i : Int) 2 = 0 := by rw [Int.tmod_eq_emod_of_nonneg (by omega)]; omega
                by_cases hc : s[i] = 44
                · have HN := Lib.hid (left_comma HL.out hi1 hlt (by omega) hc)
                  have hci : (s[i].toNat : Int) = 44 := by rw [hc]; rfl
                  clear hc ho
                  go_wp2_with fail
                  go_roundw
                  case rel => exact ⟨i + 1, acc, by omega, by omega, by omega, by go_num, HB.out, HO.out, HN.out⟩
                  case measure => simp [intOf]; omega
                · have HN := Lib.hid (Hd.out.trans (left_other HL.out hi1 hlt (by omega) hc))
                  have hci : ((s[i].toNat : Int) != 44) = true := by rw [bne_iff_ne]; intro h; exact hc (b44.2 (by omega))
                  clear hc ho HO
                  go_wp2_with fail
                  go_ret2
                  exact nres_no HN.out HB.out rfl
            · have hip : i + 1 = s.size := by omega
              have hli : (s.size : Int) - 1 ≤ (i : Int) := by omega
              have HE := Lib.hid (Hd.out.trans (left_end HL.out hip h2))
              have HV : Hid (LiesI wr u4 acc) := Lib.hid (LiesI.of HO.out)
              clear HO
              by_cases ho : s.size % 2 = 1
              · have hr1 : (s.size : Int) % 2 = 1 := by omega
                have hr2 : Int.tmod (s.size : Int) 2 = 1 := by rw [Int.tmod_eq_emod_of_nonneg (by omega)]; omega
                have HF : Hid (dgz s = some acc) := Lib.hid (by have h := HE.out; rw [if_pos ho] at h; exact h)
                clear ho
                go_wp2_with fail
                go_ret2
                exact nres_yes HF.out HB.out HV.out (by first | rfl | simp [hr1] | simp [hr2])
              · have hr1 : (s.size : Int) % 2 = 0 := by omega
                have hr2 : Int.tmod (s.size : Int) 2 = 0 := by rw [Int.tmod_eq_emod_of_nonneg (by omega)]; omega
                have HF : Hid (dgz s = none) := Lib.hid (by have h := HE.out; rw [if_neg ho] at h; exact h)
                clear ho
                go_wp2_with fail
                go_ret2
                exact nres_no HF.out HB.out (by first | rfl | simp [hr1] | simp [hr2])
      · have HN := Lib.hid (dgz_no (s := s) (fun h => h1 ((lst_eq (by omega)).symm.trans h.2.2)))
        have hi0 : (s[0].toNat : Int) = 123 := by omega
        have hi1 : ((s[s.size - 1].toNat : Int) != 125) = true := by rw [bne_iff_ne]; omega
        have h2i : (2 : Int) ≤ (s.size : Int) := by omega
        clear h1 h0
        go_enter Tryd.func52, Tryd.ntmps52
        go_wp2_with fail
        go_ret2
        exact nres_no HN.out (Below.refl _ _) rfl
    · have HN := Lib.hid (dgz_no (s := s) (fun h => h0 ((fst_eq (by omega)).symm.trans h.2.1)))
      have hi0 : ((s[0].toNat : Int) != 123) = true := by rw [bne_iff_ne]; omega
      have h2i : (2 : Int) ≤ (s.size : Int) := by omega
      clear h0
      go_enter Tryd.func52, Tryd.ntmps52
      go_wp2_with fail
      go_ret2
      exact nres_no HN.out (Below.refl _ _) rfl
  · have HN := Lib.hid (dgz_no (s := s) (fun h => h2 h.1))
    have h2i : (s.size : Int) < 2 := by omega
    clear h2
    go_enter Tryd.func52, Tryd.ntmps52
    go_wp2_with fail
    go_ret2
    exact nres_no HN.out (Below.refl _ _) rfl
end Go.Proofs.YtienbebbgioccaaDoor
