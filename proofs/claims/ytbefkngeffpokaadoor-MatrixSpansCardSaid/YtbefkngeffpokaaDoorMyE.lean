/- The closure lead of reduce. -/
import Derived.Test.YtbefkngeffpokaaDoorMyD
import Derived.WalkKit
import Derived.WalkSpells
import Derived.WalkLawsBesides
import Derived.Handy
import Derived.Deep.QuietTactic
import Derived.BigQuiet
import Derived.Outline
import Derived.Laws.BitsAllLaws
import Derived.IntWalk
import Derived.Lib.SmallJoins
import Derived.Lib.Hide
import Derived.Deep.DeepCutAuto
import Derived.LoopTactic
import Derived.Deep.RegionWith
import Derived.Laws.CopyOwn
import Derived.Maps.OwnOps
import Derived.Maps.OwnSet
import Derived.Laws.OwnMore
import Derived.Maps.AppendAt
import Derived.RangeFuncNested
import Derived.RangeFuncBound
import Derived.RangeFuncCalls
import Derived.RangeFuncLeaves
import Derived.RangeFuncBox
import Derived.RangeFuncFrom
import Derived.Shelf.Abstract
import Derived.Shelf.RegionOpen
import Derived.OwnWalkIn
import Derived.TacticsInMore
import Derived.LoopNIn
import Derived.LoopIn
import Derived.Deep.RegionHeld3
import Derived.RegionTactic
import Derived.ChangeAlike
import Derived.Deep.AppendLies
namespace Go.Proofs.YtbefkngeffpokaaDoor
set_option linter.unusedVariables false
set_option linter.unusedSimpArgs false
open Go.RowKit


theorem infoW : (Tryd.prog.info? 68).map (fun i => (i.zero, i.size, i.bytes)) = some (some (.slice none 0 0), 1, 24) := by kernel_rfl
theorem pow32' : (4294967296 : Nat) = 2 ^ 32 := by decide
theorem Ins.len {C i : Nat} {a ρ : Nat → Nat} {S : List Nat} (h : Ins C i a S ρ) : S.length ≤ C := nodup_lt C S h.nd h.lt
theorem Ins.lt32 {C i : Nat} {a ρ : Nat → Nat} {S : List Nat} (h : Ins C i a S ρ) (ha : ∀ j, j < i → a j < 4294967296) {c : Nat} (hc : c ∈ S) : ρ c < 4294967296 := by
  rw [pow32']
  refine sp_lt (fun r hr => ?_) (h.sub c hc)
  obtain ⟨j, hj, rfl⟩ := rows_mem.1 hr
  rw [← pow32']; exact ha j hj
theorem Way.lt32 {i f x : Nat} {a ρ : Nat → Nat} {S : List Nat} (h : Way i a S ρ f x) (ha : ∀ j, j ≤ i → a j < 4294967296) : x < 4294967296 := by
  rw [pow32']
  refine sp_lt (fun r hr => ?_) h.sub
  obtain ⟨j, hj, rfl⟩ := rows_mem.1 hr
  rw [← pow32']; exact ha j (by omega)
theorem cell_new_set (w : World) (a : Addr) (v x : Value) (t : TypeId) : ((w.setCell a v).alloc (.cells #[x] t)).cell? ⟨w.heap.size, 0, none⟩ = some x := by
  have h := World.cell?_alloc_mark (w.setCell a v) #[x] t (0, 0) 0
  have e : (w.setCell a v).heap.size = w.heap.size := by simp
  rw [e] at h
  exact h
/-- What lead leaves behind. -/
def LeadRes (C i : Nat) (a : Nat → Nat) (J : List Nat) (bl ρ : Nat → Nat) (Q M bx : Nat) (rv lv : Value) (w : World) (e : Ending) (w' : World) : Prop :=
  Below M w w' ∧ ((e = .returned (.bool true) ∧ ∃ c x rv' lv', St w' Q M rv' lv' rv' lv' (J ++ [c]) (J ++ [c]) (J ++ [c]) (upd bl c bx) (upd ρ c x) ∧ Ins C (i + 1) a (J ++ [c]) (upd ρ c x)) ∨
    (e = .returned (.bool false) ∧ ∃ x f, St w' Q M rv lv rv lv J J J bl ρ ∧ Bx w' bx x ∧ Way i a J ρ f x ∧ ∀ q, q < C → x.testBit q = false))
set_option maxRecDepth 100000 in
set_option maxHeartbeats 4000000 in
theorem lead_ok (C : Nat) (hC : C ≤ 31) (i : Nat) (a : Nat → Nat) (ha : ∀ j, j ≤ i → a j < 4294967296) (J : List Nat) (bl ρ : Nat → Nat) (hI : Ins C i a J ρ) (S0 Q M bx : Nat) (hS : S0 < M) (h1M : 1 < M) (rv lv : Value) (w : World) (hst : St w Q M rv lv rv lv J J J bl ρ) (hbx : Bx w bx (a i)) (hfr : Fr Q rv lv J bl bx) (hm : w.cell? ⟨S0, 0, none⟩ = some (.int .i64 (C : Int))) (hT : Tb w) :
    Calls Tryd.prog 67 #[.slice (some ⟨bx, 0, none⟩) 1 1, .pointer (some ⟨S0, 0, none⟩), .pointer (some ⟨Q, 0, none⟩)] w (LeadRes C i a J bl ρ Q M bx rv lv w) := by
  obtain ⟨o1, cap1, rfl⟩ := hst.rform
  obtain ⟨ol, cl, rfl, _⟩ := hst.lds.shape' (ints_len J)
  have hmq := hst.mq
  have hMw : M < w.heap.size := hst.piv.lt
  have hJl := hI.len
  have HF := Lib.hid (fun x (hx : x < 4294967296) f (hf : f ≤ 32) W (h : Bx W bx x) (hT : Tb W) => first_any bx x f hx hf W h hT)
  have HI := Lib.hid hI
  have HA := Lib.hid ha
  have HSt := Lib.hid hst
  have HBx := Lib.hid hbx
  have HFr := Lib.hid hfr
  have HM := Lib.hid hm
  have HT := Lib.hid hT
  have HMQ := Lib.hid hmq
  have HJl := Lib.hid hJl
  obtain ⟨i0, hi0, hz0, hz1, hz2⟩ := info_parts infoW
  have HInfo := Lib.hid hi0
  clear hI ha hst hbx hfr hm hT hJl
  go_enter Tryd.func67, Tryd.ntmps67
  go_wp2_with fail
  refine (HF.out (a i) (HA.out i (Nat.le_refl _)) 0 (by omega) _ HBx.out HT.out).mono ?_
  rintro e w' ⟨⟨v0, rfl, hv0⟩, rfl⟩
  have HV0 := Lib.hid hv0
  clear hv0
  go_wp2_with fail
  go_loopw [5] (fun j wr => ∃ f x : Nat, f ≤ C ∧ Way i a J ρ f x ∧ Fst x f j ∧ St wr Q M (.slice o1 J.length cap1) (.slice ol J.length cl) (.slice o1 J.length cap1) (.slice ol J.length cl) J J J bl ρ ∧ Bx wr bx x ∧ Below M w wr) (fun j _ => if intOf j < 0 then 0 else 64 - (intOf j).toNat)
  case atStart => exact ⟨0, a i, by omega, Way.start i a J ρ, HV0.out, HSt.out, HBx.out, Below.refl _ _⟩
  case round =>
    clear HV0 HSt HBx
    obtain ⟨f, x, hf, hway, hfs, hst, hbx, hbe⟩ := hrel
    have hx := hway.lt32 HA.out
    have c0 : wr.cell? ⟨S0, 0, none⟩ = some (.int .i64 (C : Int)) := (hbe.cell (p := ⟨S0, 0, none⟩) hS).trans HM.out
    have HWay := Lib.hid hway
    have HSt := Lib.hid hst
    have HBx := Lib.hid hbx
    have HBe := Lib.hid hbe
    have HX := Lib.hid hx
    have q0 := hst.box.cell 0
    have q1 := hst.box.cell 1
    rcases hfs with ⟨p, hfp, hp, hlow, rfl⟩ | ⟨hno, rfl⟩
    · have hp0 : (0 : Int) ≤ (p : Int) := by omega
      by_cases hpC : p < C
      · have hpC1 : (p : Int) < (C : Int) := by omega
        have hld := hway.ld hp hlow
        have HLd := Lib.hid hld
        have hlk := hst.piv.look_ok (c := p) (by omega)
        by_cases hmem : p ∈ J
        · have hd : decide (p ∈ J) = true := decide_eq_true hmem
          obtain ⟨g, cap, hrv, hcell⟩ := hst.at_ hmem
          cases hrv
          have hpx := pix_lt hmem
          have HAd := Lib.hid (add_ok bx x (bl p) (ρ p) hx (HI.out.lt32 (fun j hj => HA.out j (by omega)) hmem) (HFr.out.b p hmem) wr hbx (hst.bts p hmem))
          have HWn := Lib.hid (Way.add HI.out hway hmem hld)
          rw [hd] at hlk
          obtain ⟨k, hk⟩ : ∃ k, pix J p = k := ⟨_, rfl⟩
          rw [hk] at hlk hcell hpx
          have hk1 : (k : Int) < (J.length : Int) := by omega
          clear hway hst hbx hbe hx hld hd hk hlow hp
          go_wp2_with fail
          refine HAd.out.mono ?_
          rintro e w1 ⟨rfl, hb1, hk1⟩
          have HB1 := Lib.hid hb1
          have HS1 := Lib.hid (HSt.out.kept hk1 (fun b' e => by cases e; exact HFr.out))
          have HBe1 := Lib.hid (HBe.out.trans ((hk1.le (Nat.le_of_lt HSt.out.piv.lt)).below (fun j hj => by cases hj; have := HFr.out.hi; have := HMQ.out; omega)))
          clear hb1 hk1
          refine ?_
          go_wp2_with fail
          refine (HF.out (x ^^^ ρ p) (HWn.out.lt32 HA.out) (p + 1) (by omega) _ HB1.out (HT.out.below HBe1.out h1M)).mono ?_
          rintro e w3 ⟨⟨v3, rfl, hv3⟩, rfl⟩
          have HV3 := Lib.hid hv3
          have HDec : Hid ((if intOf v3 < 0 then 0 else 64 - (intOf v3).toNat) < 64 - p) := Lib.hid (by
            rcases hv3 with ⟨p', h1, _, _, rfl⟩ | ⟨_, rfl⟩
            · have e : intOf (Value.int .i64 (p' : Int)) = (p' : Int) := rfl
              rw [e, if_neg (by omega)]
              omega
            · have e : intOf (Value.int .i64 (-1)) = -1 := rfl
              rw [e, if_pos (by omega)]
              omega)
          clear hv3
          go_wp2_with fail
          go_roundw
          case rel => exact ⟨p + 1, x ^^^ ρ p, by omega, HWn.out, HV3.out, HS1.out, HB1.out, HBe1.out⟩
          case measure =>
            have e : intOf (Value.int .i64 (p : Int)) = (p : Int) := rfl
            have := HDec.out
            simp only [e]
            rw [if_neg (show ¬ (p : Int) < 0 by omega)]
            simpa using this
        · have hd : decide (p ∈ J) = false := decide_eq_false hmem
          rw [hd] at hlk
          have hpx : pix J p = 0 := by unfold pix; rw [if_neg hmem]
          rw [hpx] at hlk
          have HIn := Lib.hid (Way.new HI.out hway hmem hld hpC)
          have hJ32 := HJl.out
          obtain ⟨w1, hrun, hp1, hg1⟩ := hst.piv.put (c := p) (by omega) (by omega) (by omega) hmem
          have hs1 := hst.put hmem HFr.out hbx hg1 hp1
          have HB1 := Lib.hid (HBe.out.grown hg1 (Nat.le_of_lt hst.piv.lt) (fun k hk => by cases hk; exact Nat.le_refl _))
          have e0 := hs1.box.cell 0
          have f0 := hs1.box.open_ 0
          have e0a : ∀ ob, (w1.alloc ob).cell? ⟨Q, 0, none⟩ = some (.slice o1 J.length cap1) := fun ob => (hs1.box.alloc ob).cell 0
          have HS1 := Lib.hid hs1
          have HBxl := Lib.hid (Nat.lt_of_lt_of_le (Box.lt hbx) hg1.size)
          clear hway hst hbx hbe hx hld hd hlow hp hs1 hp1 hg1
          go_wp2_with (at_builtin; first
            | (refine wpList_append_lies _ rfl _ _ 79 rfl (Q + 1) 68 i0 (.slice none 0 0) 1 24 Tryd.underlying79 hi0 hz0 hz1 hz2 rfl (by decide) _ J.length _ rfl ((HS1.out.alloc _).rws) ⟨w1.heap.size, 0, none⟩ 1 1 [bsl bx] rfl rfl (cell_one_new _ _ _) (by simp [bsl, Value.oneCell']) (by decide) (by unfold maxLen; omega) (by omega) (by have := HS1.out.box.lt; simp; omega) _ rfl ?_; intro g1 cp1 w3 hown3 hgrow3 hat3 hlt3; have HS3 := Lib.hid ((HS1.out.alloc _).row (c := p) (by simp) (by rw [upd_at]; exact hown3) hgrow3 hat3); have HB3 := Lib.hid ((HB1.out.alloc (Nat.le_of_lt HS1.out.piv.lt) _).grown hgrow3 (Nat.le_of_lt (HS1.out.alloc _).piv.lt) (fun k hk => by have := (own_lt HS1.out.rws hk).1; have := HMQ.out; omega)); have e3 := HS3.out.box.cell 0; have f3 := HS3.out.box.open_ 0; have e4 := HS3.out.box.cell 2; have f4 := HS3.out.box.open_ 2; have e5 := HS3.out.store0.box.cell 2; have f5 := HS3.out.store0.box.open_ 2; clear hown3 hgrow3 hat3 hlt3)
            | (go_loud (refine app_int2 _ rfl _ _ rfl (Q + 1) _ (ints J) rfl ((HS3.out.store0.alloc _).lds) _ (p : Int) rfl (cell_new_set _ _ _ _ _) (by rw [ints_len]; omega) (by have := HS3.out.store0.box.lt; simp only [World.size_alloc]; omega) ?_; intro g2 cp2 w5 hr5 hgrow5 hat5; have HS5 := Lib.hid ((HS3.out.store0.alloc _).lead (c := p) (by rw [ints_snoc]; exact hr5) hgrow5 hat5); have e6 := HS5.out.box.cell 2; have f6 := HS5.out.box.open_ 2; have HB5 := Lib.hid (((HB3.out.setCell (p := ⟨Q, 0, none⟩) (Nat.le_of_lt HMQ.out) _).alloc (Nat.le_of_lt HS3.out.store0.piv.lt) _).grown hgrow5 (Nat.le_of_lt (HS3.out.store0.alloc _).piv.lt) (fun k hk => by have := (own_lt HS3.out.lds hk).1; have := HMQ.out; omega)); clear hr5 hgrow5 hat5)))
          have HS7 := Lib.hid HS5.out.store2
          have HB7 := Lib.hid (HB5.out.setCell (p := ⟨Q, 2, none⟩) (Nat.le_of_lt HMQ.out) (Value.slice (some ⟨g2, 0, none⟩) ((ints J).length + 1) cp2))
          go_ret
          exact ⟨HB7.out, .inl ⟨rfl, p, x, _, _, HS7.out, HIn.out⟩⟩
      · have hpC1 : ¬ (p : Int) < (C : Int) := by omega
        have hall : ∀ q, q < C → x.testBit q = false := fun q hq => by
          by_cases g : q < f
          · exact hway.low q g
          · exact hlow q (by omega) (by omega)
        have HAll := Lib.hid hall
        clear hway hst hbx hbe hx hall hlow hp
        go_wp2_with fail
        go_ret
        exact ⟨HBe.out, .inr ⟨rfl, x, f, HSt.out, HBx.out, HWay.out, HAll.out⟩⟩
    · have hall : ∀ q, q < C → x.testBit q = false := fun q hq => by
        by_cases g : q < f
        · exact hway.low q g
        · exact hno q (by omega)
      have HAll := Lib.hid hall
      clear hway hst hbx hbe hx hall hno
      go_wp2_with fail
      go_ret
      exact ⟨HBe.out, .inr ⟨rfl, x, f, HSt.out, HBx.out, HWay.out, HAll.out⟩⟩

end Go.Proofs.YtbefkngeffpokaaDoor
