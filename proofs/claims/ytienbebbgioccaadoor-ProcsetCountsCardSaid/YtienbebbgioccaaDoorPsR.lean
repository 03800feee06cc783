/- The law ProcsetReturns. -/
import Derived.Test.YtienbebbgioccaaDoorPsP
import Derived.Test.YtienbebbgioccaaDoorShelB
import Derived.Lib.OwnBridge
import Derived.WalkKit
import Derived.WalkSpells
import Derived.WalkLawsBesides
import Derived.Handy
import Derived.Deep.QuietTactic
import Derived.BigQuiet
import Derived.Outline
import Derived.Laws.BitsAllLaws
import Derived.IntWalk
import Derived.Lib.SmallJoins
import Derived.Lib.Hide
import Derived.Deep.DeepCutAuto
import Derived.LoopTactic
import Derived.Deep.RegionWith
namespace Go.Proofs.YtienbebbgioccaaDoor
set_option linter.unusedVariables false
set_option linter.unusedSimpArgs false
open Go.RowKit

theorem ownsRow_base {w : World} {B B' : Nat} {e : TypeId} {size : Nat} {v : Value} {n : Nat} {xs : List Value} (h : w.ownsRow B e size v n xs) (hle : B' ≤ B) : w.ownsRow B' e size v n xs :=
  ⟨h.1, h.2.imp id (fun ⟨g, cap, cur, h0, h1, h2⟩ => ⟨g, cap, cur, h0, Nat.le_trans hle h1, h2⟩)⟩
theorem members_own (N S : Nat) (h : SOk N S) (w : World) (hT : Tab w) : Calls Tryd.prog 11 #[.int .i64 (N : Int), .int .i64 (S : Int)] w fun e w' => ∃ v, e = .returned (.tuple #[v, .int .i64 0]) ∧ Below w.heap.size w w' ∧ w'.ownsRow w.heap.size 3 1 v (mem S).length (cellsI (mem S)) := by
  have H := Lib.hid (fun w => pchk_ok N S h w)
  have hs := h.lt
  have HE : Hid (∀ W, Calls Tryd.prog 39 #[.int .i64 (S : Int)] W fun e w' => e = .returned (.func (.func 56) #[] #[.pointer (some ⟨W.heap.size, 0, none⟩)]) ∧ w' = W.alloc (.cells #[.int .i64 (S : Int)] 3)) := Lib.hid (fun W => callsIn_wide.1 (elements_in Fence.wide 3 trivial rfl (S : Int) W))
  have HC : Hid (∀ W Bn, Tab W → Bn < W.heap.size → W.cell? ⟨Bn, 0, none⟩ = some (.int .i64 (S : Int)) → Calls Tryd.prog 38 #[.func (.func 56) #[] #[.pointer (some ⟨Bn, 0, none⟩)]] W fun e W' => ∃ v, e = .returned v ∧ W'.ownsRow W.heap.size 3 1 v (mem S).length ((mem S).map fun x : Nat => Value.int .i64 (x : Int)) ∧ (v = .slice none 0 0 ↔ mem S = []) ∧ Below W.heap.size W W') := Lib.hid (fun W Bn hT hB hc => by
    have hm : (mem S).length ≤ 5 := memb_le S 5
    refine callsIn_wide.1 (collect_in (fun x : Nat => x) Fence.wide 3 trivial 56 _ trivial (fun args w => by kernel_rfl) rfl (by omega) (mem S) (by omega) W (fun V hV => ?_))
    exact elements_stops (fun x : Nat => x) Fence.wide 2 trivial trivial (fun y V h1 h2 h3 => callsIn_wide.2 (tz_any y h1 h2 V h3)) rfl (by omega) Bn W.heap.size S hs hT.pos (mem S) (by simp) V (Nat.lt_of_lt_of_le hB hV.size) ((hV.cell (p := ⟨Bn, 0, none⟩) hB).trans hc) (hT.below hV hT.pos))
  have HT := Lib.hid hT
  clear hT h
  go_enter Tryd.func11, Tryd.ntmps11
  go_wp2_with fail
  refine (H.out _).mono ?_
  rintro e w' ⟨rfl, rfl⟩
  go_wp2_with fail
  refine (HE.out _).mono ?_
  rintro e w' ⟨rfl, rfl⟩
  go_wp2_with fail
  refine (HC.out _ w.heap.size (HT.out.below ((Below.refl _ _).alloc (Nat.le_refl _) _) HT.out.pos) (by simp) (by simp)).mono ?_
  rintro e w2 ⟨v, rfl, ho, _, hb⟩
  have hB := fresh_below hb
  have HL : Hid (w2.ownsRow w.heap.size 3 1 v (mem S).length (cellsI (mem S))) := Lib.hid (ownsRow_base ho (by simp))
  clear ho hb
  go_wp2_with fail
  go_ret2
  exact ⟨v, rfl, hB, HL.out⟩
theorem cells_zl (l : List Nat) : cellsI l = (zl l).map (Value.int .i64) := by simp [cellsI, zl]
theorem rev_own (l : List Nat) (hl : l.length ≤ 1000000) (B : Nat) (v : Value) (W : World) (h : W.ownsRow B 3 1 v l.length (cellsI l)) :
    Calls Tryd.prog 33 #[v] W fun e w' => e = .returned (.tuple #[]) ∧ Below B W w' ∧ w'.ownsRow B 3 1 v l.length (cellsI l.reverse) := by
  by_cases hv : v = .slice none 0 0
  · subst hv
    have h0 : l = [] := by
      rcases h.2 with ⟨_, h1⟩ | ⟨g, cap, cur, h1, _⟩
      · exact List.length_eq_zero_iff.1 h1
      · cases h1
    subst h0
    refine (Tryd.slices_Reverse_int_empty none 0 W).mono ?_
    rintro e w' ⟨rfl, rfl⟩
    exact ⟨rfl, Below.refl _ _, h⟩
  · rw [cells_zl] at h
    obtain ⟨g, cap, rfl, hB, hg, hn, hm, hlen, hH⟩ := Lib.holds_of_ownsRow h hv
    have hr := Tryd.slices_Reverse_int g 0 cap (zl l) W hH (by rw [zl_len]; omega)
    rw [zl_len] at hr
    refine hr.mono ?_
    rintro e w' ⟨rfl, q, rfl⟩
    have h2 := Lib.ownsRow_putRow (q := q) (k := l.length) (ys := (zl l).reverse) h (by simp [zl_len]) (Nat.le_refl _)
    rw [List.take_of_length_le (by simp [zl_len])] at h2
    refine ⟨rfl, Lib.below_putRow (Below.refl _ _) hB, ?_⟩
    have e2 : cellsI l.reverse = (zl l).reverse.map (Value.int .i64) := by simp [cellsI, zl]
    rw [e2]
    exact h2
theorem sorted_ok (l : List Nat) (hl : l.length ≤ 1000000) (hd : Lib.downOK (fun x y : Int => decide (x < y)) (zl l).toArray (l.length - 1) = true) (v : Value) (W : World) (h : LiesI W v l) :
    Calls Tryd.prog 32 #[v] W fun e w' => e = .returned (.bool true) ∧ Below W.heap.size W w' := by
  rcases h.form with ⟨rfl, h0⟩ | ⟨g, cap, rfl, hg, hc, HG⟩
  · refine (Tryd.slices_IsSorted_int_none none 0 W).mono ?_
    rintro e w' ⟨rfl, rfl⟩
    exact ⟨rfl, Below.refl _ _⟩
  · have e : (zl l).toArray.size = l.length := by simp [zl]
    have hr := Tryd.slices_IsSorted_int g 0 cap (zl l).toArray W (fun i hi => by
      have h2 : i < l.length := by rw [e] at hi; exact hi
      rw [Nat.zero_add, HG W i (Below.refl _ _) h2, getElem!_pos _ i hi]
      simp [zl]) (by rw [e]; omega)
    rw [e, hd] at hr
    refine hr.mono ?_
    rintro e w' ⟨rfl, q, rfl⟩
    exact ⟨rfl, below_dn q (Below.refl _ _)⟩
theorem sortF : ∀ S : Fin 32, Lib.downOK (fun x y : Int => decide (x < y)) (zl (mem S.val)).toArray ((mem S.val).length - 1) = true := by decide +kernel
theorem ofF : ∀ N : Fin 6, ∀ S : Fin 32, 1 ≤ N.val → S.val < 2 ^ N.val → ofz N.val 0 (zl (mem S.val)) = ((S.val : Int), 0) ∧ ofz N.val 0 (zl (mem S.val).reverse) = ((S.val : Int), 0) := by decide +kernel
theorem txF : ∀ S : Fin 32, (2 ≤ (txs S.val).size ∧ fst (txs S.val) = 123 ∧ lst (txs S.val) = 125) ∧ (txs S.val).size ≤ 20 ∧ (if (inn (txs S.val)).data.toList = [] then some [] else ptl (cpts (inn (txs S.val)))) = some (mem S.val) := by decide +kernel
theorem ascF : ∀ S : Fin 32, ∀ k : Fin 5, (h : k.val + 1 < (mem S.val).length) → ¬ (mem S.val)[k.val + 1] < (mem S.val)[k.val] := by decide +kernel
theorem pz_txs {N S : Nat} (h : SOk N S) : pz N (txs S) = ((S : Int), 0) := by
  have hs := h.lt
  obtain ⟨hb, hz, hp⟩ := txF ⟨S, hs⟩
  simp only at hb hz hp
  have ho := (ofF ⟨N, by have := h.2.1; omega⟩ ⟨S, hs⟩ h.1 h.2.2).1
  simp only at ho
  have hd : dgz (txs S) = some (mem S) := by
    unfold dgz
    rw [if_pos (show Braced (txs S) from hb)]
    by_cases he : (inn (txs S)).data.toList = []
    · rw [if_pos he] at hp ⊢; exact hp
    · rw [if_neg he] at hp ⊢; exact hp
  have hm : (mem S).length ≤ 5 := memb_le S 5
  unfold pz
  rw [if_neg (by omega), hd]
  dsimp only
  rw [ho, if_neg (by simp), if_neg (fun ⟨k, hk, hl⟩ => ascF ⟨S, hs⟩ ⟨k, by omega⟩ hk hl)]
theorem own_below {w W : World} {B : Nat} {v : Value} {n : Nat} {xs : List Value} (h : w.ownsRow B 3 1 v n xs) (hb : Below w.heap.size w W) : W.ownsRow B 3 1 v n xs := by
  refine ⟨h.1, ?_⟩
  rcases h.2 with h0 | ⟨g, cap, cur, h0, h1, h2, h3⟩
  · exact .inl h0
  · refine .inr ⟨g, cap, cur, h0, h1, ?_, h3⟩
    rw [hb.block g (Array.getElem?_eq_some_iff.1 h2).1]
    exact h2
theorem own_form {w : World} {B : Nat} {v : Value} {n : Nat} {xs : List Value} (h : w.ownsRow B 3 1 v n xs) : ∃ o cap, v = .slice o n cap := by
  rcases h.2 with ⟨h0, h1⟩ | ⟨g, cap, cur, h0, _⟩
  · subst h1; exact ⟨_, _, h0⟩
  · exact ⟨_, _, h0⟩

set_option maxRecDepth 100000 in
set_option maxHeartbeats 16000000 in
theorem returns_ok (n s : Int) (w : World) (hg : Good w) : Calls Tryd.prog 7 #[.int .i64 n, .int .i64 s] w fun e w' => e = .returned (.bool true) ∧ Below w.heap.size w w' := by
  rcases pbad n s with ⟨c, h0, h1, _⟩ | ⟨N, S, rfl, rfl, h⟩
  · have H1 := Lib.hid h1
    have HG := Lib.hid hg
    have hb : (c != 0) = true := by simpa using h0
    clear h1 hg h0
    go_enter Tryd.func7, Tryd.ntmps7
    go_wp2_with fail
    refine (H1.out _).mono ?_
    rintro e w' ⟨rfl, rfl⟩
    go_wp2_with fail
    refine (awake_good _ HG.out).mono ?_
    rintro e W10 ⟨rfl, hB⟩
    have B10 : Hid (Below w.heap.size w W10) := Lib.hid hB
    clear hB
    go_wp2_with fail
    go_ret
    exact ⟨rfl, B10.out⟩
  · have hs := h.lt
    have hm : (mem S).length ≤ 5 := memb_le S 5
    obtain ⟨ho1, ho2⟩ := ofF ⟨N, by have := h.2.1; omega⟩ ⟨S, hs⟩ h.1 h.2.2
    simp only at ho1 ho2
    have hN : 1 ≤ N ∧ N ≤ 5 := ⟨h.1, h.2.1⟩
    have HC := Lib.hid (fun w => pchk_ok N S h w)
    have HM := Lib.hid (fun w hT => members_own N S h w hT)
    have HZ : Hid (∀ w, Calls Tryd.prog 13 #[.int .i64 (N : Int), .int .i64 (S : Int)] w fun e w' => e = .returned (.tuple #[.int .i64 ((mem S).length : Int), .int .i64 0]) ∧ w = w') := Lib.hid (fun w => size_okn N S h w)
    have HS : Hid (∀ v W, LiesI W v (mem S) → Calls Tryd.prog 32 #[v] W fun e w' => e = .returned (.bool true) ∧ Below W.heap.size W w') := Lib.hid (fun v W hv => sorted_ok (mem S) (by omega) (sortF ⟨S, hs⟩) v W hv)
    have HO : Hid (∀ v W, LiesI W v (mem S) → Calls Tryd.prog 22 #[.int .i64 (N : Int), v] W fun e w' => e = .returned (.tuple #[.int .i64 (S : Int), .int .i64 0]) ∧ W = w') := Lib.hid (fun v W hv => by
      have h2 := of_lies N hN (mem S) (by omega) v W hv
      rw [ho1] at h2
      exact h2)
    have HR : Hid (∀ v W, LiesI W v (mem S).reverse → Calls Tryd.prog 22 #[.int .i64 (N : Int), v] W fun e w' => e = .returned (.tuple #[.int .i64 (S : Int), .int .i64 0]) ∧ W = w') := Lib.hid (fun v W hv => by
      have h2 := of_lies N hN (mem S).reverse (by simp; omega) v W hv
      rw [ho2] at h2
      exact h2)
    have HV : Hid (∀ B v W, W.ownsRow B 3 1 v (mem S).length (cellsI (mem S)) → Calls Tryd.prog 33 #[v] W fun e w' => e = .returned (.tuple #[]) ∧ Below B W w' ∧ w'.ownsRow B 3 1 v (mem S).length (cellsI (mem S).reverse)) := Lib.hid (fun B v W hv => rev_own (mem S) (by omega) B v W hv)
    have HF := Lib.hid (fun w hT => format_okn N S h w hT)
    have HP : Hid (∀ W, Good W → Calls Tryd.prog 30 #[.int .i64 (N : Int), .string (txs S)] W fun e w' => e = .returned (.tuple #[.int .i64 (S : Int), .int .i64 0]) ∧ Below W.heap.size W w') := Lib.hid (fun W hw => by
      obtain ⟨m, hmm⟩ := hw.int
      have h2 := parse_okn N hN (txs S) (by have := (txF ⟨S, hs⟩).2.1; simp only at this; omega) m W hw.lt hmm
      rw [pz_txs h] at h2
      exact h2)
    have HG := Lib.hid hg
    have HRl : Hid ((mem S).reverse.length = (mem S).length) := Lib.hid (by simp)
    obtain ⟨l, hl⟩ : ∃ l, mem S = l := ⟨_, rfl⟩
    rw [hl] at hm HM HZ HS HO HR HV HRl
    obtain ⟨tx, htx⟩ : ∃ tx, txs S = tx := ⟨_, rfl⟩
    rw [htx] at HF HP
    clear hl htx ho1 ho2 h hg hN
    go_enter Tryd.func7, Tryd.ntmps7
    go_wp2_with fail
    refine (HC.out _).mono ?_
    rintro e w' ⟨rfl, rfl⟩
    go_wp2_with fail
    refine (HM.out _ HG.out.tab).mono ?_
    rintro e W1 ⟨v, rfl, hB, hO⟩
    have B1 : Hid (Below w.heap.size w W1) := Lib.hid hB
    have O1 := Lib.hid hO
    obtain ⟨o, cap, rfl⟩ := own_form hO
    clear hB hO HM HC
    go_wp2_with fail
    refine (HZ.out _).mono ?_
    rintro e w' ⟨rfl, rfl⟩
    go_wp2_with fail
    refine (HS.out _ _ (LiesI.of O1.out)).mono ?_
    rintro e W2 ⟨rfl, hB⟩
    have B2 : Hid (Below w.heap.size w W2) := Lib.hid (bt B1.out hB)
    have O2 : Hid (W2.ownsRow w.heap.size 3 1 (.slice o l.length cap) l.length (cellsI l)) := Lib.hid (own_below O1.out hB)
    clear hB B1 O1 HS HZ
    go_wp2_with fail
    refine (HO.out _ _ (LiesI.of O2.out)).mono ?_
    rintro e w' ⟨rfl, rfl⟩
    go_wp2_with fail
    refine (HV.out _ _ _ O2.out).mono ?_
    rintro e W3 ⟨rfl, hB, hO⟩
    have B3 : Hid (Below w.heap.size w W3) := Lib.hid (B2.out.trans hB)
    have O3 : Hid (LiesI W3 (.slice o l.length cap) l.reverse) := Lib.hid (LiesI.of (by rw [HRl.out]; exact hO))
    clear hB hO B2 O2 HV HO
    go_wp2_with fail
    refine (HR.out _ _ O3.out).mono ?_
    rintro e w' ⟨rfl, rfl⟩
    go_wp2_with fail
    refine (HF.out _ (HG.out.below B3.out).tab).mono ?_
    rintro e W4 ⟨rfl, hB⟩
    have B4 : Hid (Below w.heap.size w W4) := Lib.hid (bt B3.out hB)
    clear hB B3 HF HR O3
    go_wp2_with fail
    refine (HP.out _ (HG.out.below B4.out)).mono ?_
    rintro e W5 ⟨rfl, hB⟩
    have B5 : Hid (Below w.heap.size w W5) := Lib.hid (bt B4.out hB)
    clear hB B4 HP
    go_wp2_with fail
    refine (awake_good _ (HG.out.below B5.out)).mono ?_
    rintro e W10 ⟨rfl, hB⟩
    have B10 : Hid (Below w.heap.size w W10) := Lib.hid (bt B5.out hB)
    clear hB B5
    go_wp2_with fail
    go_ret
    exact ⟨rfl, B10.out⟩
end Go.Proofs.YtienbebbgioccaaDoor
