/- Package procset: the digits between braces. -/
import Derived.Test.YtienbebbgioccabDoorPsH
import Derived.Lib.SplitLaws
import Derived.WalkKit
import Derived.WalkSpells
import Derived.WalkLawsBesides
import Derived.Handy
import Derived.Deep.QuietTactic
import Derived.BigQuiet
import Derived.Outline
import Derived.Laws.BitsAllLaws
import Derived.IntWalk
import Derived.Lib.SmallJoins
import Derived.Lib.Hide
import Derived.Deep.DeepCutAuto
import Derived.LoopTactic
import Derived.Deep.RegionWith
namespace Go.Proofs.YtienbebbgioccabDoor
set_option linter.unusedVariables false
set_option linter.unusedSimpArgs false
open Go.RowKit

/-- The number of a part of one digit. -/
def pgl : List UInt8 → Option Nat
  | [b] => if 48 ≤ b.toNat ∧ b.toNat ≤ 57 then some (b.toNat - 48) else none
  | _ => none
def pg (x : ByteArray) : Option Nat := pgl x.data.toList
/-- The numbers of parts of one digit each. -/
def ptl : List ByteArray → Option (List Nat)
  | [] => some []
  | x :: r => match pg x, ptl r with
    | some p, some l => some (p :: l)
    | _, _ => none
theorem ptl_some : ∀ (ps : List ByteArray) (l : List Nat), l.length = ps.length → (∀ j, (h : j < ps.length) → (h2 : j < l.length) → pg ps[j] = some l[j]) → ptl ps = some l
  | [], [], _, _ => rfl
  | [], _ :: _, h, _ => by simp at h
  | _ :: _, [], h, _ => by simp at h
  | x :: r, p :: l, h, hj => by
    have h0 := hj 0 (by simp) (by simp)
    simp at h0
    have hr := ptl_some r l (by simpa using h) (fun j h1 h2 => by
      have := hj (j + 1) (by simpa using h1) (by simpa using h2)
      simpa using this)
    unfold ptl
    rw [h0, hr]
theorem ptl_none : ∀ (ps : List ByteArray) (j : Nat) (h : j < ps.length), pg ps[j] = none → ptl ps = none
  | [], j, h, _ => by simp at h
  | x :: r, 0, _, hn => by
    simp at hn
    unfold ptl
    rw [hn]
  | x :: r, j + 1, h, hn => by
    have := ptl_none r j (by simpa using h) (by simpa using hn)
    unfold ptl
    rw [this]
    cases pg x <;> rfl
def cpts (s : ByteArray) : List ByteArray := Lib.splitB { data := #[44] } 0 (Lib.countB s { data := #[44] }) s
theorem cpts_len (s : ByteArray) : (cpts s).length = Lib.countB s { data := #[44] } + 1 := Lib.splitB_all { data := #[44] } (by decide) 0 _ s rfl
def fst (s : ByteArray) : Nat := (s.data.toList.headD 0).toNat
def lst (s : ByteArray) : Nat := (s.data.toList.getLastD 0).toNat
/-- Whether a text has braces. -/
def Braced (s : ByteArray) : Prop := 2 ≤ s.size ∧ fst s = 123 ∧ lst s = 125
/-- What lies between the braces. -/
def inn (s : ByteArray) : ByteArray := s.extract 1 (s.size - 1)
open Classical in
noncomputable def dgz (s : ByteArray) : Option (List Nat) := if Braced s then (if (inn s).data.toList = [] then some [] else ptl (cpts (inn s))) else none
/-- What digits answers. -/
def DRes (s : ByteArray) (B : Nat) (w : World) (e : Ending) (w' : World) : Prop := Below B w w' ∧ match dgz s with
  | none => e = .returned (.tuple #[.slice none 0 0, .bool false])
  | some l => ∃ v, e = .returned (.tuple #[v, .bool true]) ∧ LiesI w' v l

theorem fst_eq {s : ByteArray} (h : 0 < s.size) : fst s = s[0].toNat := by
  unfold fst
  have h2 : 0 < s.data.toList.length := by rw [Array.length_toList]; exact h
  have key : ∀ (l : List UInt8) (hl : 0 < l.length), l.headD 0 = l[0] := by
    intro l hl
    cases l with
    | nil => simp at hl
    | cons x r => rfl
  rw [key _ h2]; rfl
theorem lst_eq {s : ByteArray} (h : 0 < s.size) : lst s = (s[s.size - 1]'(by omega)).toNat := by
  unfold lst
  have h2 : 0 < s.data.toList.length := by rw [Array.length_toList]; exact h
  have e : s.data.toList.getLastD 0 = s.data.toList[s.data.toList.length - 1] := by
    rw [List.getLastD_eq_getLast?, List.getLast?_eq_getElem?, List.getElem?_eq_getElem (by omega)]; rfl
  rw [e]
  have e2 : s.data.toList.length - 1 = s.size - 1 := by rw [Array.length_toList]; rfl
  simp only [e2]
  rfl
theorem pg_bad {x : ByteArray} (h : x.size ≠ 1) : pg x = none := by
  unfold pg
  have h2 : x.data.toList.length ≠ 1 := by rw [Array.length_toList]; exact h
  cases hl : x.data.toList with
  | nil => rfl
  | cons b r => cases r with
    | nil => rw [hl] at h2; simp at h2
    | cons c q => rfl
theorem pg_one {x : ByteArray} (h : x.size = 1) : pg x = if 48 ≤ (x[0]'(by omega)).toNat ∧ (x[0]'(by omega)).toNat ≤ 57 then some ((x[0]'(by omega)).toNat - 48) else none := by
  have h2 : x.data.toList.length = 1 := by rw [Array.length_toList]; exact h
  have key : ∀ (l : List UInt8) (hl : l.length = 1), pgl l = if 48 ≤ (l[0]'(by omega)).toNat ∧ (l[0]'(by omega)).toNat ≤ 57 then some ((l[0]'(by omega)).toNat - 48) else none := by
    intro l hl
    cases l with
    | nil => simp at hl
    | cons b r => cases r with
      | nil => rfl
      | cons c q => simp at hl
  exact key _ h2
theorem dgz_no {s : ByteArray} (h : ¬ Braced s) : dgz s = none := by unfold dgz; rw [if_neg h]
theorem cpart_cell (s : ByteArray) {p : Nat} (hp : p < (cpts s).length) : ((cpts s).map Value.string).toArray[p]? = some (.string (cpts s)[p]) := by
  rw [List.getElem?_toArray, List.getElem?_map, List.getElem?_eq_getElem hp]; rfl
theorem csplit_size (sep : ByteArray) : ∀ k s, ∀ x ∈ Lib.splitB sep 0 k s, x.size ≤ s.size
  | 0, s, x, hx => by
    rw [Lib.splitB_zero, List.mem_singleton] at hx
    rw [hx]; exact Nat.le_refl _
  | k + 1, s, x, hx => by
    unfold Lib.splitB at hx
    split at hx
    · rw [List.mem_singleton] at hx
      rw [hx]; exact Nat.le_refl _
    · rcases List.mem_cons.1 hx with hx | hx
      · rw [hx, ByteArray.size_extract]; omega
      · have := csplit_size sep k _ x hx
        rw [ByteArray.size_extract] at this
        omega
theorem dres_no {s : ByteArray} {B : Nat} {w w' : World} (h : dgz s = none) (hb : Below B w w') : DRes s B w (.returned (.tuple #[.slice none 0 0, .bool false])) w' := by
  refine ⟨hb, ?_⟩; rw [h]
theorem dres_yes {s : ByteArray} {B : Nat} {w w' : World} {l : List Nat} {v : Value} (h : dgz s = some l) (hb : Below B w w') (hl : LiesI w' v l) : DRes s B w (.returned (.tuple #[v, .bool true])) w' := by
  refine ⟨hb, ?_⟩; rw [h]; exact ⟨v, rfl, hl⟩

set_option maxRecDepth 100000 in
set_option maxHeartbeats 8000000 in
theorem digits_any (s : ByteArray) (hs : s.size ≤ 1000000) (m : Int) (w : World) (hw : 3 < w.heap.size) (hm : w.cell? ⟨3, 0, none⟩ = some (.int .i64 m)) :
    Calls Tryd.prog 23 #[.string s] w (DRes s w.heap.size w) := by
  by_cases h2 : 2 ≤ s.size
  · by_cases h0 : s[0].toNat = 123
    · by_cases h1 : s[s.size - 1].toNat = 125
      · have hbr : Braced s := ⟨h2, (fst_eq (by omega)).trans h0, (lst_eq (by omega)).trans h1⟩
        have hi0 : (s[0].toNat : Int) = 123 := by omega
        have hi1 : (s[s.size - 1].toNat : Int) = 125 := by omega
        have h2i : (2 : Int) ≤ (s.size : Int) := by omega
        have htl : (s.extract 1 (s.size - 1)).toList = (inn s).data.toList := ByteArray.toList_eq _
        by_cases he : (inn s).data.toList = []
        · have hd : dgz s = some [] := by unfold dgz; rw [if_pos hbr, if_pos he]
          have hem : (s.extract 1 (s.size - 1)).toList.isEmpty = true := by rw [htl, he]; rfl
          have hem2 : (s.extract 1 (s.size - 1)).toList = [] := by rw [htl, he]
          have Hd := Lib.hid hd
          clear hd he hbr h0 h1 htl hm
          go_enter Tryd.func23, Tryd.ntmps23
          go_wp2_with fail
          go_ret2
          exact dres_yes Hd.out (Below.refl _ _) ⟨.inl ⟨rfl, rfl⟩⟩
        · have hd : dgz s = ptl (cpts (inn s)) := by unfold dgz; rw [if_pos hbr, if_neg he]
          have hem : (s.extract 1 (s.size - 1)).toList.isEmpty = false := by rw [htl]; simpa using he
          have Hd := Lib.hid hd
          have hisz : (inn s).size ≤ 1000000 := by unfold inn; rw [ByteArray.size_extract]; omega
          have HS : Hid (∀ W, W.cell? ⟨3, 0, none⟩ = some (.int .i64 m) → Calls Tryd.prog 31 #[.string (s.extract 1 (s.size - 1)), .string { data := #[44] }] W fun e w' => e = .returned (.slice (some ⟨W.heap.size, 0, none⟩) (cpts (inn s)).length (cpts (inn s)).length) ∧ w' = W.alloc (.cells ((cpts (inn s)).map Value.string).toArray 9)) := Lib.hid (fun W hW => by
            have := Tryd.strings_Split (inn s) { data := #[44] } m W (by omega) hW (by decide)
            rw [cpts_len]
            exact this)
          have Hm := Lib.hid hm
          have Hps : Hid (∀ i, (h : i < (cpts (inn s)).length) → (cpts (inn s))[i].size ≤ 1000000) := Lib.hid (fun i h => Nat.le_trans (csplit_size _ _ _ _ (List.getElem_mem h)) hisz)
          have hpl : (cpts (inn s)).length ≤ 1000001 := by
            rw [cpts_len]
            have h1 : Lib.countB (inn s) { data := #[44] } ≤ (inn s).size := Lib.countB_le { data := #[44] } (by decide) _ (inn s) (Nat.le_refl _)
            omega
          have hp1 : 1 ≤ (cpts (inn s)).length := by rw [cpts_len]; omega
          have Hcell := Lib.hid (fun p hp => cpart_cell (inn s) (p := p) hp)
          obtain ⟨ps, hps⟩ : ∃ ps, cpts (inn s) = ps := ⟨_, rfl⟩
          rw [hps] at HS Hps Hd hpl hp1 Hcell
          obtain ⟨i0, hi, hz0, hz1, hz2⟩ := info_parts infoI
          clear hps hd he hbr h0 h1 htl hisz hm
          go_enter Tryd.func23, Tryd.ntmps23
          go_wp2_with fail
          refine (HS.out _ Hm.out).mono ?_
          rintro e W ⟨rfl, hW⟩
          have hB1 : Below w.heap.size w W := by rw [hW]; exact (Below.refl _ _).alloc (Nat.le_refl _) _
          have hz : w.heap.size + 1 = W.heap.size := by rw [hW]; simp
          have hX : W.heap[w.heap.size]? = some (.cells (ps.map Value.string).toArray 9 (0, 0)) := by
            rw [hW]; show (w.heap.push _)[w.heap.size]? = _; simp
          clear hW hi0 hi1 h2i hem
          obtain ⟨A, hA⟩ : ∃ A, w.heap.size = A := ⟨_, rfl⟩
          rw [hA] at hX hz ⊢
          have HA := Lib.hid hA
          have HB1 := Lib.hid hB1
          obtain ⟨R0, hR0⟩ : ∃ R, W.heap.size = R := ⟨_, rfl⟩
          have HR := Lib.hid hR0
          rw [hR0] at hz
          have HP : Hid (∀ V i, Below R0 W V → (h : i < ps.length) → V.cell? ⟨A, i, none⟩ = some (.string ps[i])) := Lib.hid (fun V i hV h => by
            rw [hV.cell (p := ⟨A, i, none⟩) (by show A < R0; omega), Joins.cell_of_block hX]
            exact Hcell.out i h)
          clear hA hB1 hX hR0 Hcell HS
          go_wp2_with fail
          go_loopw [5, 34] (fun v j wr => ∃ (i : Nat) (acc : List Nat), i ≤ ps.length ∧ acc.length = i ∧ j = .int .i64 (i : Int) ∧ Below R0 W wr ∧ wr.ownsRow R0 3 1 v acc.length (cellsI acc) ∧ ∀ j, j < i → (h : j < ps.length) → (h2 : j < acc.length) → pg ps[j] = some acc[j]) (fun _ j _ => ps.length - (intOf j).toNat)
          case atStart => exact ⟨0, [], by omega, rfl, rfl, Below.refl _ _, World.ownsRow_nil _ _ _ _, fun j hj => by omega⟩
          case round =>
            obtain ⟨i, acc, hile, hal, rfl, hB, hO, hacc⟩ := hrel
            have HB := Lib.hid hB
            have HO := Lib.hid hO
            have Hacc := Lib.hid hacc
            clear hB hO hacc
            by_cases hlt : i < ps.length
            · have hc := HP.out wr i HB.out hlt
              have hxs := Hps.out i hlt
              have Hno := Lib.hid (fun (h : pg ps[i] = none) => Hd.out.trans (ptl_none ps i hlt h))
              have Hsn : Hid (∀ k, pg ps[i] = some k → ∀ j, j < i + 1 → (h : j < ps.length) → (h2 : j < (acc ++ [k]).length) → pg ps[j] = some (acc ++ [k])[j]) := Lib.hid (fun k hk j hj h h2 => by
                by_cases hji : j < i
                · rw [List.getElem_append_left (by omega)]
                  exact Hacc.out j hji h (by omega)
                · have e : j = i := by omega
                  subst e
                  rw [hk, List.getElem_append_right (by omega)]
                  simp [hal])
              obtain ⟨x, hx⟩ : ∃ x, ps[i] = x := ⟨_, rfl⟩
              rw [hx] at hc hxs Hno Hsn
              clear hx
              have hBw : Hid (Below A w wr) := Lib.hid (by
                have h1 := HA.out
                have h2 := HB1.out
                rw [h1] at h2
                exact h2.trans (Joins.below_le HB.out (by omega)))
              by_cases hsz : x.size = 1
              · have hszi : (x.size : Int) = 1 := by omega
                have hpg := pg_one hsz
                have hb8 : x[0].toNat < 256 := x[0].toNat_lt
                obtain ⟨b, hb⟩ : ∃ b, x[0].toNat = b := ⟨_, rfl⟩
                have hbi : (x[0].toNat : Int) = (b : Int) := by omega
                rw [hb] at hpg hb8
                clear hb
                by_cases hg : 48 ≤ b ∧ b ≤ 57
                · rw [if_pos hg] at hpg
                  obtain ⟨hg1, hg2⟩ := hg
                  obtain ⟨k, hk⟩ : ∃ k, b - 48 = k := ⟨_, rfl⟩
                  have hki : (b : Int) - 48 = (k : Int) := by omega
                  rw [hk] at hpg
                  have HN := Lib.hid (Hsn.out k hpg)
                  clear hpg hk
                  go_wp2_with (at_builtin; refine wpList_append_own _ rfl _ _ 26 rfl R0 3 i0 (.int .i64 0) 1 8 Tryd.underlying26 hi hz0 hz1 hz2 rfl (by decide) _ _ _ rfl (HO.out.alloc _) ⟨wr.heap.size, 0, none⟩ 1 1 [.int .i64 (k : Int)] rfl rfl ?c1 ?c2 ?c3 ?c4 ?c5 ?_)
                  case c1 => exact cell_one_new _ _ _
                  case c2 => intro u hu; simp at hu; rw [hu]; rfl
                  case c3 => unfold maxLen; omega
                  case c4 => omega
                  case c5 => have h1 := HB.out.size; have h2 := HR.out; simp; omega
                  intro v' w1 hown' hgrow hnil
                  have HO2 := Lib.hid (show w1.ownsRow R0 3 1 v' (acc ++ [k]).length (cellsI (acc ++ [k])) from by
                    rw [List.length_append, cellsI_app, hal]
                    exact hown')
                  have HB2 := Lib.hid ((HB.out.alloc (by have h1 := HB.out.size; have h2 := HR.out; omega) _).grown hgrow (by have h1 := HB.out.size; have h2 := HR.out; simp; omega) (fun k hk => (HO.out.lt k hk).1))
                  clear hown' hgrow hnil HO HB
                  go_wp2_with fail
                  go_roundw
                  case rel => exact ⟨i + 1, acc ++ [k], by omega, by simp [hal], by go_num, HB2.out, HO2.out, HN.out⟩
                  case measure => simp [intOf]; omega
                · rw [if_neg hg] at hpg
                  have HN := Lib.hid (Hno.out hpg)
                  clear hpg HO
                  by_cases hg1 : b < 48
                  · clear hg
                    go_wp2_with fail
                    go_ret2
                    exact dres_no HN.out (by first | exact hBw.out | (rw [HA.out]; exact hBw.out))
                  · have hg3 : 48 ≤ b := by omega
                    have hg2 : 57 < b := by omega
                    clear hg hg1
                    go_wp2_with fail
                    go_ret2
                    exact dres_no HN.out (by first | exact hBw.out | (rw [HA.out]; exact hBw.out))
              · have hszi : ((x.size : Int) != 1) = true := by rw [bne_iff_ne]; omega
                have HN := Lib.hid (Hno.out (pg_bad hsz))
                clear hsz HO
                go_wp2_with fail
                go_ret2
                exact dres_no HN.out (by first | exact hBw.out | (rw [HA.out]; exact hBw.out))
            · have hip : i = ps.length := by omega
              have HF : Hid (dgz s = some acc) := Lib.hid (Hd.out.trans (ptl_some ps acc (by omega) (fun j h1 h2 => Hacc.out j (by omega) h1 h2)))
              have HL : Hid (LiesI wr u5 acc) := Lib.hid (LiesI.of HO.out)
              have hBw : Hid (Below A w wr) := Lib.hid (by
                have h1 := HA.out
                have h2 := HB1.out
                rw [h1] at h2
                exact h2.trans (Joins.below_le HB.out (by omega)))
              clear HO
              go_wp2_with fail
              go_ret2
              exact dres_yes HF.out (by first | exact hBw.out | (rw [HA.out]; exact hBw.out)) HL.out
      · have HN := Lib.hid (dgz_no (s := s) (fun h => h1 ((lst_eq (by omega)).symm.trans h.2.2)))
        have hi0 : (s[0].toNat : Int) = 123 := by omega
        have hi1 : ((s[s.size - 1].toNat : Int) != 125) = true := by rw [bne_iff_ne]; omega
        have h2i : (2 : Int) ≤ (s.size : Int) := by omega
        clear h1 h0
        go_enter Tryd.func23, Tryd.ntmps23
        go_wp2_with fail
        go_ret2
        exact dres_no HN.out (Below.refl _ _)
    · have HN := Lib.hid (dgz_no (s := s) (fun h => h0 ((fst_eq (by omega)).symm.trans h.2.1)))
      have hi0 : ((s[0].toNat : Int) != 123) = true := by rw [bne_iff_ne]; omega
      have h2i : (2 : Int) ≤ (s.size : Int) := by omega
      clear h0
      go_enter Tryd.func23, Tryd.ntmps23
      go_wp2_with fail
      go_ret2
      exact dres_no HN.out (Below.refl _ _)
  · have HN := Lib.hid (dgz_no (s := s) (fun h => h2 h.1))
    have h2i : (s.size : Int) < 2 := by omega
    clear h2
    go_enter Tryd.func23, Tryd.ntmps23
    go_wp2_with fail
    go_ret2
    exact dres_no HN.out (Below.refl _ _)
end Go.Proofs.YtienbebbgioccabDoor
