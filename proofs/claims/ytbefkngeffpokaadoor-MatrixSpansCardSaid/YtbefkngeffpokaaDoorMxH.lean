/- The specification's Sum; matrices whose rows are numbers; Few. -/
import Derived.Test.YtbefkngeffpokaaDoorMxF
import Derived.Test.YtbefkngeffpokaaDoorMxG
import Derived.WalkKit
import Derived.WalkSpells
import Derived.WalkLawsBesides
import Derived.Handy
import Derived.Deep.QuietTactic
import Derived.BigQuiet
import Derived.Outline
import Derived.Laws.BitsAllLaws
import Derived.IntWalk
import Derived.Lib.SmallJoins
import Derived.Lib.Hide
import Derived.Deep.DeepCutAuto
import Derived.LoopTactic
import Derived.Deep.RegionWith
import Derived.Laws.CopyOwn
import Derived.Maps.OwnOps
import Derived.Maps.OwnSet
import Derived.Laws.OwnMore
import Derived.Maps.AppendAt
import Derived.RangeFuncNested
import Derived.RangeFuncBound
import Derived.RangeFuncCalls
import Derived.RangeFuncLeaves
import Derived.RangeFuncBox
import Derived.RangeFuncFrom
import Derived.Shelf.Abstract
import Derived.Shelf.RegionOpen
import Derived.OwnWalkIn
import Derived.TacticsInMore
import Derived.LoopNIn
import Derived.LoopIn
import Derived.Deep.RegionHeld3
import Derived.RegionTactic
import Derived.ChangeAlike
namespace Go.Proofs.YtbefkngeffpokaaDoor
set_option linter.unusedVariables false
set_option linter.unusedSimpArgs false
open Go.RowKit


/-- K rows of C columns, as numbers. -/
def Mx (w : World) (o : Option Addr) (K C : Nat) (r : Nat → Nat) : Prop := Ls w o K fun c => ints (el C (r c))
theorem Mx.below {w W : World} {o : Option Addr} {K C : Nat} {r : Nat → Nat} (h : Mx w o K C r) (hb : Below w.heap.size w W) : Mx W o K C r := Ls.below h hb
theorem Row.lz {w : World} {R : Nat} {v : Value} {l : List Nat} (h : Row w R v (ints l)) : ∃ o cap, v = .slice o l.length cap ∧ Lz w o l.length (lz l) := by
  obtain ⟨o, cap, e, hz⟩ := h.shape
  rw [ints_len] at e hz
  exact ⟨o, cap, e, hz.congr fun i _ => ints_at l i⟩
/-- A row of a matrix. -/
theorem Mx.at_ {w : World} {o : Option Addr} {K C : Nat} {r : Nat → Nat} (h : Mx w o K C r) {c : Nat} (hc : c < K) : ∃ b off oc cap, o = some ⟨b, off, none⟩ ∧ b < w.heap.size ∧ w.cell? ⟨b, off + c, none⟩ = some (.slice oc (el C (r c)).length cap) ∧ Lz w oc (el C (r c)).length (lz (el C (r c))) := by
  obtain ⟨b, off, e, hb, h2⟩ := h (by omega)
  obtain ⟨oc, cap, h3, h4⟩ := h2 c hc
  rw [ints_len] at h3 h4
  exact ⟨b, off, oc, cap, e, hb, h3, h4.congr fun i _ => ints_at _ i⟩
set_option maxHeartbeats 2000000 in
theorem sum_ok (K C : Nat) (hC : C ≤ 31) (r : Nat → Nat) (l : List Nat) (hl : ∀ i, i ∈ l → i < K) (hlen : l.length ≤ 1000000) (o p : Option Addr) (cap cap' : Nat) (w : World) (hM : Mx w o K C r) (hL : Lz w p l.length (lz l)) :
    Calls Tryd.prog 40 #[.slice o K cap, .slice p l.length cap'] w fun e w' => ∃ v, e = .returned v ∧ Row w' w.heap.size v (ints (el C (sumr r 0 l))) ∧ Below w.heap.size w w' := by
  have HM := Lib.hid hM
  have HL := Lib.hid hL
  have HLt := Lib.hid hl
  obtain ⟨m, hm⟩ : ∃ m, l.length = m := ⟨_, rfl⟩
  rw [hm] at HL hlen ⊢
  have Hm := Lib.hid hm
  clear hM hL hl hm
  go_enter Tryd.func40, Tryd.ntmps40
  go_wp2_with fail
  go_loopw [5, 6] (fun v j wr => ∃ k : Nat, k ≤ m ∧ j = .int .i64 (k : Int) ∧ Row wr w.heap.size v (ints (el C (sumr r 0 (l.take k)))) ∧ Below w.heap.size w wr) (fun _ j _ => m - (intOf j).toNat)
  case atStart => exact ⟨0, by omega, by first | trivial | rfl, by show Row _ _ _ (ints (el C 0)); rw [el_zero]; exact Row.nil _ _, Below.refl _ _⟩
  case round =>
    obtain ⟨k, hk, rfl, hrw, hbe⟩ := hrel
    by_cases hlt : k < m
    · have hk1 : (k : Int) < (m : Int) := by omega
      obtain ⟨g, off, rfl, hg, hc⟩ := HL.out (by omega)
      have c1 := (hbe.cell (p := ⟨g, off + k, none⟩) hg).trans (hc k hlt)
      have hmem : l.getD k 0 ∈ l := by
        rw [List.getD_eq_getElem?_getD, List.getElem?_eq_getElem (by have := Hm.out; omega)]
        exact List.getElem_mem _
      have hi := HLt.out _ hmem
      have hts := take_snoc (l := l) (k := k) (by have := Hm.out; omega)
      unfold lz at c1
      obtain ⟨i, hi2⟩ : ∃ i, l.getD k 0 = i := ⟨_, rfl⟩
      rw [hi2] at c1 hi hts
      obtain ⟨bM, oM, oc, cpc, rfl, hbM, e1, l1⟩ := HM.out.at_ hi
      have e2 := (hbe.cell (p := ⟨bM, oM + i, none⟩) hbM).trans e1
      obtain ⟨ov, cv, rfl, lv⟩ := hrw.lz
      have hlen1 := el_len C (sumr r 0 (l.take k))
      have hlen2 := el_len C (r i)
      have hpl := plus_ok (el C (sumr r 0 (l.take k))) (el C (r i)) (by omega) ov oc cv cpc wr lv (l1.below hbe)
      rw [plus_el, ← sumr_snoc, ← hts] at hpl
      have HPl := Lib.hid hpl
      have hi1 : (i : Int) < (K : Int) := by omega
      obtain ⟨n1, hn1⟩ : ∃ n, (el C (sumr r 0 (l.take k))).length = n := ⟨_, rfl⟩
      obtain ⟨n2, hn2⟩ : ∃ n, (el C (r i)).length = n := ⟨_, rfl⟩
      rw [hn1, hn2] at HPl
      rw [hn1]
      rw [hn2] at e2
      have HBe := Lib.hid hbe
      have HSz := Lib.hid hbe.size
      clear hrw hbe hc hmem hts hi2 e1 l1 lv hlen1 hlen2 hpl hn1 hn2
      go_wp2_with fail
      refine HPl.out.mono ?_
      rintro e w2 ⟨v2, rfl, hr2, hb2⟩
      have HR2 := Lib.hid (hr2.le HSz.out)
      have HB2 := Lib.hid (HBe.out.trans (Joins.below_le hb2 HSz.out))
      clear hr2 hb2
      go_wp2_with fail
      go_roundw
      case rel => exact ⟨k + 1, by omega, by go_num, HR2.out, HB2.out⟩
      case measure => simp [intOf]; omega
    · have e : k = m := by omega
      subst e
      have htk : l.take k = l := by rw [← Hm.out, List.take_length]
      rw [htk] at hrw
      have HRw := Lib.hid hrw
      have HBe := Lib.hid hbe
      clear hrw hbe hlt htk
      go_wp2_with fail
      go_ret
      exact ⟨_, rfl, HRw.out, HBe.out⟩
/-! ### from codes to numbers -/
theorem vgo_zero {C : Int} {f : Nat → Int} : ∀ m i, vgo C f m i = 0 → ∀ k, i ≤ k → k < i + m → (0 ≤ f k ∧ f k < C) ∧ (0 < k → f (k - 1) < f k)
  | 0, _, _, k, h1, h2 => by omega
  | m + 1, i, h, k, h1, h2 => by
    unfold vgo at h
    by_cases hb : f i < 0 ∨ C ≤ f i
    · rw [if_pos hb] at h; omega
    · rw [if_neg hb] at h
      by_cases hd : 0 < i ∧ f i ≤ f (i - 1)
      · rw [if_pos hd] at h; omega
      · rw [if_neg hd] at h
        by_cases hk : k = i
        · subst hk
          exact ⟨by omega, fun h0 => by
            by_cases hh : f k ≤ f (k - 1)
            · exact absurd ⟨h0, hh⟩ hd
            · omega⟩
        · exact vgo_zero m (i + 1) h k (by omega) (by omega)
theorem vcode_mask {C : Nat} {n : Nat} {f : Nat → Int} (h : vcode (C : Int) n f = 0) : ∃ x, x < 2 ^ C ∧ n = (el C x).length ∧ ∀ i, i < n → f i = lz (el C x) i := by
  have hz := fun k (hk : k < n) => vgo_zero n 0 h k (Nat.zero_le _) (by omega)
  have hmono : ∀ j i, i < j → j < n → f i < f j := by
    intro j
    induction j with
    | zero => intro i hi; omega
    | succ j ih =>
      intro i hi hj
      have h1 := (hz (j + 1) hj).2 (by omega)
      rw [Nat.add_sub_cancel] at h1
      by_cases e : i = j
      · subst e; exact h1
      · have := ih i (by omega) (by omega); omega
  have hasc : ((List.range n).map fun i => (f i).toNat).Pairwise (· < ·) := by
    rw [List.pairwise_map]
    refine List.Pairwise.imp_of_mem (fun {a b} ha hb hab => ?_) (List.pairwise_lt_range (n := n))
    have h1 := hmono b a hab (List.mem_range.1 hb)
    have h2 := (hz a (List.mem_range.1 ha)).1
    omega
  have hlt : ∀ i, i ∈ ((List.range n).map fun i => (f i).toNat) → i < C := fun i hi => by
    obtain ⟨k, hk, rfl⟩ := List.mem_map.1 hi
    have := (hz k (List.mem_range.1 hk)).1
    omega
  have he := el_msk hasc hlt
  refine ⟨msk ((List.range n).map fun i => (f i).toNat), msk_lt (asc_nodup hasc) hlt, by rw [he]; simp, fun i hi => ?_⟩
  rw [he]
  unfold lz
  have e : ((List.range n).map fun i => (f i).toNat).getD i 0 = (f i).toNat := by simp [List.getD_eq_getElem?_getD, hi]
  rw [e]
  have := (hz i hi).1
  omega
theorem mgo_zero {C : Int} {nc : Nat → Nat} {xc : Nat → Nat → Int} : ∀ m c, mgo C nc xc m c = 0 → ∀ k, c ≤ k → k < c + m → vcode C (nc k) (xc k) = 0
  | 0, _, _, k, h1, h2 => by omega
  | m + 1, c, h, k, h1, h2 => by
    unfold mgo at h
    by_cases hv : vcode C (nc c) (xc c) = 0
    · rw [if_neg (by simp [hv])] at h
      by_cases hk : k = c
      · rw [hk]; exact hv
      · exact mgo_zero m (c + 1) h k (by omega) (by omega)
    · rw [if_pos hv] at h; exact absurd h hv
/-- A matrix without errors. -/
theorem mx_of {C : Int} {K : Nat} {nc : Nat → Nat} {xc : Nat → Nat → Int} (h : mcode C K nc xc = 0) : ∃ (N : Nat) (r : Nat → Nat), C = (N : Int) ∧ N ≤ 4096 ∧ K ≤ 4096 ∧ (∀ c, c < K → r c < 2 ^ N) ∧
    ∀ w o oc cc, Lv w o K oc nc cc xc → Mx w o K N r := by
  unfold mcode at h
  by_cases hC : C < 0 ∨ 4096 < C
  · rw [if_pos hC] at h; omega
  · rw [if_neg hC] at h
    by_cases hK : 4096 < K
    · rw [if_pos hK] at h; omega
    · rw [if_neg hK] at h
      obtain ⟨N, rfl⟩ := Int.eq_ofNat_of_zero_le (show 0 ≤ C by omega)
      have hv : ∀ c, ∃ x, c < K → x < 2 ^ N ∧ nc c = (el N x).length ∧ ∀ i, i < nc c → xc c i = lz (el N x) i := fun c => by
        by_cases hc : c < K
        · obtain ⟨x, h1, h2, h3⟩ := vcode_mask (mgo_zero K 0 h c (Nat.zero_le _) (by omega))
          exact ⟨x, fun _ => ⟨h1, h2, h3⟩⟩
        · exact ⟨0, fun h => absurd h hc⟩
      refine ⟨N, fun c => Classical.choose (hv c), rfl, by omega, by omega, fun c hc => (Classical.choose_spec (hv c) hc).1, fun w o oc cc hL hn => ?_⟩
      obtain ⟨b, off, e, hb, h2⟩ := hL hn
      refine ⟨b, off, e, hb, fun c hc => ?_⟩
      obtain ⟨e1, l1⟩ := h2 c hc
      obtain ⟨_, s2, s3⟩ := Classical.choose_spec (hv c) hc
      refine ⟨oc c, cc c, by rw [ints_len, ← s2]; exact e1, ?_⟩
      rw [ints_len, ← s2]
      exact l1.congr fun i hi => (s3 i hi).trans (ints_at _ i).symm
/-- A row whose code is 0 against a length. -/
theorem lv_mx {w : World} {o : Option Addr} {K C : Nat} {r : Nat → Nat} (h : Mx w o K C r) : ∃ oc cc, Lv w o K oc (fun c => (el C (r c)).length) cc (fun c => lz (el C (r c))) := by
  by_cases e : 0 < K
  · obtain ⟨b, off, rfl, hb, hc⟩ := h e
    have key : ∀ c, ∃ p : Option Addr × Nat, c < K → w.cell? ⟨b, off + c, none⟩ = some (.slice p.1 (el C (r c)).length p.2) ∧ Lz w p.1 (el C (r c)).length (lz (el C (r c))) := fun c => by
      by_cases hcl : c < K
      · obtain ⟨oc, cc, h1, h2⟩ := hc c hcl
        rw [ints_len] at h1 h2
        exact ⟨(oc, cc), fun _ => ⟨h1, h2.congr fun i _ => ints_at _ i⟩⟩
      · exact ⟨(none, 0), fun h => absurd h hcl⟩
    exact ⟨fun c => (Classical.choose (key c)).1, fun c => (Classical.choose (key c)).2, fun _ => ⟨b, off, rfl, hb, fun c hcl => Classical.choose_spec (key c) hcl⟩⟩
  · exact ⟨fun _ => none, fun _ => 0, fun h => absurd h e⟩
theorem lz_at {l : List Nat} {i : Nat} (h : i < l.length) : lz l i = ((l[i] : Nat) : Int) := by
  unfold lz
  rw [List.getD_eq_getElem?_getD, List.getElem?_eq_getElem h]
  rfl
theorem vcode_el (C x : Nat) : vcode (C : Int) (el C x).length (lz (el C x)) = 0 := by
  have key : ∀ m i, i + m = (el C x).length → vgo (C : Int) (lz (el C x)) m i = 0 := by
    intro m
    induction m with
    | zero => intro i _; rfl
    | succ m ih =>
      intro i hi
      have hl : i < (el C x).length := by omega
      have h1 := (el_mem.1 (List.getElem_mem hl)).1
      have e : lz (el C x) i = (((el C x)[i] : Nat) : Int) := lz_at hl
      unfold vgo
      rw [if_neg (by rw [e]; omega), if_neg]
      · exact ih (i + 1) (by omega)
      · rintro ⟨h0, h2⟩
        have hl2 : i - 1 < (el C x).length := by omega
        rw [e, lz_at hl2] at h2
        have := List.pairwise_iff_getElem.1 (el_asc C x) (i - 1) i hl2 hl (by omega)
        omega
  exact key _ 0 (by omega)
theorem mcode_el (C K : Nat) (hC : C ≤ 4096) (hK : K ≤ 4096) (r : Nat → Nat) : mcode (C : Int) K (fun c => (el C (r c)).length) (fun c => lz (el C (r c))) = 0 := by
  unfold mcode
  rw [if_neg (by omega), if_neg (by omega)]
  have key : ∀ m c, mgo (C : Int) (fun c => (el C (r c)).length) (fun c => lz (el C (r c))) m c = 0 := by
    intro m
    induction m with
    | zero => intro c; rfl
    | succ m ih =>
      intro c
      unfold mgo
      rw [if_neg (by rw [vcode_el]; simp)]
      exact ih (c + 1)
  exact key K 0
theorem check_mx (C K : Nat) (hC : C ≤ 4096) (hK : K ≤ 4096) (r : Nat → Nat) (o : Option Addr) (cap : Nat) (w : World) (hM : Mx w o K C r) : Calls Tryd.prog 18 #[mv (C : Int) o K cap] w fun e w' => e = .returned (.int .i64 0) ∧ Below w.heap.size w w' := by
  obtain ⟨oc, cc, hL⟩ := lv_mx hM
  have := check_any (C : Int) K o cap oc _ cc (fun c _ => by have := el_len C (r c); omega) _ w hL
  rwa [mcode_el C K hC hK] at this
theorem rcheck_mx (C K : Nat) (hC : C ≤ 4096) (hK : K ≤ 4096) (r : Nat → Nat) (o : Option Addr) (cap : Nat) (w : World) (hM : Mx w o K C r) : Calls Tryd.prog 19 #[mv (C : Int) o K cap] w fun e w' => e = .returned (.int .i64 0) ∧ Below w.heap.size w w' := by
  obtain ⟨oc, cc, hL⟩ := lv_mx hM
  have := rcheck_any (C : Int) K o cap oc _ cc (fun c _ => by have := el_len C (r c); omega) _ w hL
  rwa [mcode_el C K hC hK] at this

end Go.Proofs.YtbefkngeffpokaaDoor
