/- The specification's further, Every and All. -/
import Derived.Test.YtgppdbiimlbpjaaDoorRxE
import Derived.WalkKit
import Derived.WalkSpells
import Derived.WalkLawsBesides
import Derived.Handy
import Derived.Deep.QuietTactic
import Derived.BigQuiet
import Derived.Outline
import Derived.Laws.BitsAllLaws
import Derived.IntWalk
import Derived.Lib.SmallJoins
import Derived.Lib.Hide
import Derived.Deep.DeepCutAuto
import Derived.LoopTactic
import Derived.Deep.RegionWith
import Derived.Laws.CopyOwn
import Derived.Maps.OwnOps
import Derived.Maps.OwnSet
import Derived.Laws.OwnMore
import Derived.Maps.AppendAt
import Derived.Test.YtgppdbiimlbpjaaDoorShelF
import Derived.RangeFuncNested
import Derived.RangeFuncBound
import Derived.RangeFuncCalls
import Derived.RangeFuncLeaves
import Derived.RangeFuncBox
import Derived.RangeFuncFrom
import Derived.Shelf.Abstract
import Derived.Shelf.RegionOpen
import Derived.OwnWalkIn
import Derived.TacticsInMore
import Derived.LoopNIn
import Derived.LoopIn
import Derived.Laws.AppendOwnNone
namespace Go.Proofs.YtgppdbiimlbpjaaDoor
set_option linter.unusedVariables false
set_option linter.unusedSimpArgs false
open Go.RowKit


/-- append of a list to nil. -/
theorem app_from {ops : Array Oper} {rest : List Oper} {o : Oper} {a : Act} {Q : Exit → Act → World → Prop} (w : World) (hgd : o.guard = none) (s x : Operand)
    (ho : o.op = .call { callee := .builtin .append, args := #[s, x], argTypes := #[22, 22] })
    (n cap : Nat) (f : Nat → Int) (src : Option Addr) (hs : a.eval s = .slice none 0 0) (hx : a.eval x = .slice src n cap) (hz : Lz w src n f) (h0 : n = 0 → src = none ∧ cap = 0) (hn : n ≤ 1000000)
    (h : ∀ v' w', Row w' w.heap.size v' (lsf n f) → Below w.heap.size w w' → wpList Tryd.prog ops Q rest (a.put o.dst v') w') :
    wpList Tryd.prog ops Q (o :: rest) a w := by
  obtain ⟨i0, hi, hz0, hz1, hz2⟩ := info_parts infoI
  by_cases e : n = 0
  · subst e
    obtain ⟨rfl, rfl⟩ := h0 rfl
    refine wpList_append_own_none hgd s x 22 ho w.heap.size 3 i0 1 Tryd.underlying22 hi (.slice none 0 0) 0 [] hs (World.ownsRow_nil _ _ _ _) hx ?_
    exact h _ _ (Row.nil _ _) (Below.refl _ _)
  · obtain ⟨b, off, rfl, hb, hc⟩ := hz (by omega)
    have hlen : (lsv (lsf n f)).length = n := by simp [lsv, lsf]
    refine wpList_append_own_at _ hgd s x 22 ho w.heap.size 3 i0 (.int .i64 0) 1 8 Tryd.underlying22 hi hz0 hz1 hz2 rfl (by decide) _ 0 [] hs (World.ownsRow_nil _ _ _ _) ⟨b, off, none⟩ n cap (lsv (lsf n f)) hx (by rw [hlen]; omega) ?_ ?_ (by unfold maxLen; omega) (by omega) (Nat.le_refl _) ?_
    · intro j u hu
      have hj : j < n := by have := (List.getElem?_eq_some_iff.1 hu).1; omega
      rw [addr_add, hc j hj, ← hu]
      simp [lsv, lsf, hj]
    · intro u hu
      unfold lsv at hu
      rw [List.mem_map] at hu
      obtain ⟨y, _, rfl⟩ := hu
      rfl
    · intro v' w' hown hgrow _ _
      refine h v' w' ?_ ((Below.refl _ _).grown hgrow (Nat.le_refl _) (fun k hk => by cases hk))
      rw [Nat.zero_add, List.nil_append] at hown
      have e2 : (lsf n f).length = n := by simp [lsf]
      unfold Row
      rw [e2]
      exact hown
theorem One1.lq {w : World} {g cap m n : Nat} {off : Nat} {l : List Nat} (h : One1 w (.slice (some ⟨g, off, none⟩) m cap) n l) : Lq w (some ⟨g, off, none⟩) n cap (zf (fun_ l)) := by
  obtain ⟨g', off', cap', e, h1, h2, h3⟩ := h
  cases e
  exact ⟨fun _ => ⟨g, off, rfl, h1, h3⟩, h2⟩
/-- What further gives. -/
def FurRes (n : Nat) (G : List (List Nat)) (o : Option Addr) (w : World) (e : Ending) (w' : World) : Prop := ∃ v vs, e = .returned v ∧ Grq w' w.heap.size n v vs G ∧ (∀ u ∈ vs, ∀ g off m cap, u = .slice (some ⟨g, off, none⟩) m cap → w.heap.size ≤ g ∨ ∃ off', o = some ⟨g, off', none⟩) ∧ Below w.heap.size w w'
set_option maxRecDepth 100000 in
set_option maxHeartbeats 4000000 in
theorem further_any (n : Nat) (h1 : 1 ≤ n) (h5 : n ≤ 5) : ∀ (m i : Nat) (a : List Nat) (o : Option Addr) (cap : Nat) (w : World), i + m = n → a ∈ lev n i → Lq w o i cap (zf (fun_ a)) → (i = 0 → o = none ∧ cap = 0) →
    Calls Tryd.prog 72 #[.int .i64 (n : Int), .slice o i cap] w (FurRes n (fur n m a) o w) := by
  intro m
  induction m with
  | zero =>
    intro i a o cap w him ha hL h0
    have hin : i = n := by omega
    subst hin
    obtain ⟨b, off, rfl, hb, hc⟩ := hL.1 (by omega)
    have hg : Grq (w.alloc (.cells #[.slice (some ⟨b, off, none⟩) i cap] 22)) w.heap.size i (.slice (some ⟨w.heap.size, 0, none⟩) 1 1) [.slice (some ⟨b, off, none⟩) i cap] [a] := by
      refine ⟨World.ownsRow_lit w #[.slice (some ⟨b, off, none⟩) i cap] 1 (Nat.le_refl _) (by decide) rfl, fun c hc' => ?_⟩
      have hc0 : c = 0 := by simp at hc'; omega
      subst hc0
      exact ⟨_, rfl, ⟨b, off, cap, rfl, by simp; omega, hL.2, fun k hk => (World.cell?_alloc_lt _ _ _ hb).trans (hc k hk)⟩, fun g off m cap e => by cases e; simp [Value.ownBlock]; omega⟩
    have HG := Lib.hid hg
    have HB := Lib.hid (show Below w.heap.size w (w.alloc (.cells #[.slice (some ⟨b, off, none⟩) i cap] 22)) from (Below.refl _ _).alloc (Nat.le_refl _) _)
    clear hg hL h0 hc ha him
    go_enter Tryd.func72, Tryd.ntmps72
    go_wp2_with fail
    go_ret
    exact ⟨_, _, rfl, HG.out, fun u hu g off' m' cap' e => by simp at hu; rw [hu] at e; cases e; exact .inr ⟨_, rfl⟩, HB.out⟩
  | succ m ih =>
    intro i a o cap w him ha hL h0
    obtain ⟨i0, hi0, hz0, hz1, hz2⟩ := info_parts infoL
    have hlt : i < n := by omega
    have hne : (i == n) = false := by simpa using (show i ≠ n by omega)
    have hneI : ((i : Int) == (n : Int)) = false := by rw [beq_eq_false_iff_ne]; omega
    have hall := (lev_all ⟨n, by omega⟩ ⟨i, by omega⟩).2 a ha
    change a.length = i ∧ _ at hall
    have hal := hall.1
    have hfl : ∀ p, p < n → a.contains p = false → 0 < (fur n m (a ++ [p])).length ∧ (fur n m (a ++ [p])).length ≤ 120 := fun p hp hc => by
      have := fur_len ⟨n, by omega⟩ ⟨i + 1, by omega⟩ (by show i + 1 ≤ n; omega) (a ++ [p]) (lev_next ha hp hc)
      have e : n - (i + 1) = m := by omega
      change 0 < (fur n (n - (i + 1)) (a ++ [p])).length ∧ (fur n (n - (i + 1)) (a ++ [p])).length ≤ 120 at this
      rwa [e] at this
    have hpl := furp_len n m a (fun p hp hc => (hfl p hp hc).2)
    have HFl := Lib.hid hfl
    have HPl := Lib.hid hpl
    have HAl := Lib.hid hal
    have HA := Lib.hid ha
    have HL := Lib.hid hL
    have H0 := Lib.hid h0
    have HIm := Lib.hid him
    have Ih := Lib.hid ih
    clear hall hal hfl hpl ha hL h0 ih him
    go_enter Tryd.func72, Tryd.ntmps72
    go_wp2_with fail
    go_loopw [5, 6] (fun v j wr => ∃ (p : Nat) (vs : List Value), p ≤ n ∧ j = .int .i64 (p : Int) ∧ Grq wr w.heap.size n v vs (furp n m a p) ∧ (∀ u ∈ vs, ∀ g off m cap, u = .slice (some ⟨g, off, none⟩) m cap → w.heap.size ≤ g) ∧ Below w.heap.size w wr) (fun _ j _ => n - (intOf j).toNat)
    case atStart => exact ⟨0, [], by omega, by first | trivial | rfl, by rw [furp_zero]; exact Grq.nil _ _ _, fun u hu => by simp at hu, Below.refl _ _⟩
    case round =>
      obtain ⟨p, vs, hp, rfl, hg, haw, hbe⟩ := hrel
      have HBe := Lib.hid hbe
      have HAw := Lib.hid haw
      by_cases hpn : p < n
      · have hpn1 : (p : Int) < (n : Int) := by omega
        have hlb := HPl.out p (by omega)
        obtain ⟨G, hG⟩ : ∃ G, furp n m a p = G := ⟨_, rfl⟩
        rw [hG] at hg hlb
        have HGe := Lib.hid hG
        obtain ⟨ov, cv, hv, _⟩ := hg.lr
        obtain ⟨len, hlen⟩ : ∃ len, G.length = len := ⟨_, rfl⟩
        rw [hlen] at hv hlb
        subst hv
        have HGr := Lib.hid hg
        have HLen := Lib.hid hlen
        have hlb2 : len ≤ 600 := Nat.le_trans hlb (Nat.le_trans (Nat.mul_le_mul_right 120 (show p ≤ 5 by omega)) (by omega))
        have HSz := Lib.hid hbe.size
        have hhas := has_any i (by omega) (zf (fun_ a)) (p : Int) o cap wr (HL.out.1.below hbe)
        have hhb : hasb i (zf (fun_ a)) (p : Int) = a.contains p := by rw [← hasb_contains, HAl.out]
        rw [hhb] at hhas
        clear hg hbe haw hG hlen hlb hhb
        cases hcon : a.contains p with
        | true =>
          rw [hcon] at hhas
          have HH := Lib.hid hhas
          have HE := Lib.hid (furp_in (n := n) (m := m) hcon)
          clear hcon hhas
          go_wp2_with fail
          refine HH.out.mono ?_
          rintro e w' ⟨rfl, rfl⟩
          go_wp2_with fail
          go_roundw
          case rel => exact ⟨p + 1, vs, by omega, by go_num, by rw [HE.out, HGe.out]; exact HGr.out, HAw.out, HBe.out⟩
          case measure => simp [intOf]; omega
        | false =>
          rw [hcon] at hhas
          have HH := Lib.hid hhas
          have HE := Lib.hid (furp_out (n := n) (m := m) hcon)
          obtain ⟨hf0, hf120⟩ := HFl.out p hpn hcon
          have HF0 := Lib.hid hf0
          have HNx := Lib.hid (lev_next HA.out hpn hcon)
          obtain ⟨F, hF⟩ : ∃ F, fur n m (a ++ [p]) = F := ⟨_, rfl⟩
          rw [hF] at HE HF0 hf120
          have HFe := Lib.hid hF
          have HLr := Lib.hid (HL.out.1.below HBe.out)
          have H120 := Lib.hid hf120
          clear hcon hhas hf0 hF hf120
          go_wp2_with fail
          refine HH.out.mono ?_
          rintro e w' ⟨rfl, rfl⟩
          go_wp2_with (first
            | (at_builtin; go_loud (refine app_from _ rfl (.tmp 22) (.tmp 23) rfl i cap (zf (fun_ a)) o rfl rfl HLr.out H0.out (by omega) ?_; intro v1 w1 hr1 hb1; have HR1 := Lib.hid hr1; have HB1 := Lib.hid hb1; have HLl := Lib.hid (show (lsf i (zf (fun_ a))).length = i by simp [lsf]); have HR1a := Lib.hid (hr1.alloc (.cells #[.int .i64 (p : Int)] 3)); have HS1 := Lib.hid hb1.size; clear hr1 hb1))
            | (at_builtin; go_loud (refine app_int2 _ rfl (.tmp 27) (.tmp 29) rfl wr.heap.size v1 (lsf i (zf (fun_ a))) rfl HR1a.out w1.heap.size (p : Int) rfl (World.cell?_alloc_mark _ #[_] 3 (0, 0) 0) (by rw [HLl.out]; omega) (by have := HS1.out; simp; omega) ?_; intro g2 cap2 w2 hr2 hg2 hat2; rw [HLl.out] at hr2 ⊢; have HR2 := Lib.hid hr2; have HG2 := Lib.hid hg2; clear hr2 hg2 hat2)))
          have hb2 : Below wr.heap.size wr w2 := (HB1.out.alloc HS1.out _).grown HG2.out (by have := HS1.out; simp; omega) (fun k hk => (HR1a.out.ownLt k hk).1)
          have HB2 := Lib.hid hb2
          have hone := row_one HAl.out HR2.out
          have HIh := Lib.hid (Ih.out (i + 1) (a ++ [p]) (some ⟨g2, 0, none⟩) cap2 w2 (by have := HIm.out; omega) HNx.out hone.lq (fun h => by omega))
          have hgg := HR2.out.off
          have HGg := Lib.hid hgg
          have HGr2 := Lib.hid (HGr.out.below hb2)
          clear hb2 hone hgg
          go_wp2_with fail
          refine HIh.out.mono ?_
          rintro e w3 ⟨v3, vs3, rfl, hg3, haw3, hb3⟩
          rw [HFe.out] at hg3
          have hvl3 : vs3.length = F.length := by have := hg3.own.1; omega
          obtain ⟨FL, hFL⟩ : ∃ x, F.length = x := ⟨_, rfl⟩
          have hsrc : ∃ b3 c3, v3 = .slice (some ⟨b3, 0, none⟩) FL c3 ∧ ∀ j u, vs3[j]? = some u → w3.cell? ((⟨b3, 0, none⟩ : Addr).add j) = some u := by
            rcases own_cases hg3.own with ⟨_, h0⟩ | ⟨b3, c3, e3, _, hb3', hcl3⟩
            · have := HF0.out; omega
            · exact ⟨b3, c3, by rw [← hFL]; exact e3, fun j u hu => by rw [addr_add, Nat.zero_add]; exact hcl3 j u hu⟩
          obtain ⟨b3, c3, rfl, hsrc⟩ := hsrc
          have hone3 : ∀ u ∈ vs3, u.oneCell' = true := fun u hu => by
            obtain ⟨c, hc, e⟩ := List.mem_iff_getElem.1 hu
            obtain ⟨u2, e2, ⟨g, off, k, rfl, _⟩, _⟩ := hg3.rows c (by omega)
            rw [List.getElem?_eq_getElem hc, e] at e2
            cases e2
            rfl
          have hrows : ∀ c, c < F.length → ∃ u, vs3[c]? = some u ∧ One1 w3 u n (F.getD c []) ∧ ∀ g off m cap, u = .slice (some ⟨g, off, none⟩) m cap → (Value.slice ov len cv).ownBlock ≠ some g := fun c hc => by
            obtain ⟨u, e1, e2, _⟩ := hg3.rows c hc
            refine ⟨u, e1, e2, fun g off m cap e e4 => ?_⟩
            have hk := (own_block_lt HGr.out g e4).2
            have hs2 := HB2.out.size
            have hg2 := HGg.out
            rcases haw3 u (List.mem_of_getElem? e1) g off m cap e with h | ⟨off', h⟩
            · omega
            · have := congrArg (fun x => x.map (·.block)) h
              simp at this
              omega
          have haw' : ∀ u ∈ vs ++ vs3, ∀ g off m cap, u = .slice (some ⟨g, off, none⟩) m cap → w.heap.size ≤ g := fun u hu g off m cap e => by
            rcases List.mem_append.1 hu with h | h
            · exact HAw.out u h g off m cap e
            · have hs2 := HB2.out.size
              have hg2 := HGg.out
              have hsz := HSz.out
              rcases haw3 u h g off m cap e with h | ⟨off', h⟩
              · omega
              · have := congrArg (fun x => x.map (·.block)) h
                simp at this
                omega
          have HGr3 := Lib.hid (HGr2.out.below hb3)
          have HOn3 := Lib.hid (show w3.ownsRow w.heap.size 22 1 (.slice ov len cv) len vs by have h := (HGr2.out.below hb3).own; rw [HLen.out] at h; exact h)
          have HSrc := Lib.hid hsrc
          have HOne3 := Lib.hid hone3
          have HRows := Lib.hid hrows
          have HAw' := Lib.hid haw'
          have HVl3 := Lib.hid (hvl3.trans hFL)
          have HFL := Lib.hid hFL
          have hFL120 : FL ≤ 120 := by rw [← hFL]; exact H120.out
          have hFL0 : 0 < FL := by rw [← hFL]; exact HF0.out
          have hbe3 : Below w.heap.size w w3 := (HBe.out.trans (Joins.below_le HB2.out HSz.out)).trans (Joins.below_le hb3 (by have := HSz.out; have := HB2.out.size; omega))
          have HBe3 := Lib.hid hbe3
          have HS3 := Lib.hid hbe3.size
          clear hsrc hone3 hrows haw' hvl3 hFL hg3 haw3 hb3 hbe3
          go_wp2_with (at_builtin; go_loud (refine wpList_append_own_at _ rfl (.tmp 25) (.tmp 31) 45 rfl w.heap.size 22 i0 (.slice none 0 0) 1 24 Tryd.underlying45 hi0 hz0 hz1 hz2 rfl (by decide) _ len vs rfl HOn3.out ⟨b3, 0, none⟩ FL c3 vs3 rfl (by rw [HVl3.out]; omega) HSrc.out HOne3.out (by unfold maxLen; omega) (by omega) HS3.out ?_; intro v' w5 hown hgrow _ hat; have HOw5 := Lib.hid hown; have HGr5 := Lib.hid hgrow; have HAt5 := Lib.hid hat; clear hown hgrow hat))
          have hst := HGr3.out.app (H := F) (us := vs3) HRows.out (by rw [HLen.out, HFL.out]; exact HOw5.out) HGr5.out HAt5.out
          have HSt := Lib.hid hst
          have HB5 := Lib.hid (HBe3.out.grown HGr5.out HS3.out (fun k hk => (own_block_lt HGr.out k hk).1))
          clear hst HOw5 HGr5 HAt5
          go_roundw
          case rel => exact ⟨p + 1, _, by omega, by go_num, by rw [HE.out, HGe.out]; exact HSt.out, HAw'.out, HB5.out⟩
          case measure => simp [intOf]; omega
      · have e : p = n := by omega
        subst e
        rw [furp_all] at hg
        have HG := Lib.hid hg
        clear hg hbe haw hpn
        go_wp2_with fail
        go_ret
        exact ⟨_, _, rfl, HG.out, fun u hu g off m cap e => .inl (HAw.out u hu g off m cap e), HBe.out⟩
/-- What Every and All give. -/
theorem every_ok (n : Nat) (h1 : 1 ≤ n) (h5 : n ≤ 5) (w : World) : Calls Tryd.prog 55 #[.int .i64 (n : Int)] w fun e w' => ∃ o cap, e = .returned (.slice o (pl n).length cap) ∧ Lr w' o n (pl n) ∧ Below w.heap.size w w' := by
  have H := Lib.hid (further_any n h1 h5 n 0 [] none 0 w (by omega) (by simp [lev]) ⟨Lz.nil, Nat.le_refl _⟩ (fun _ => ⟨rfl, rfl⟩))
  have hf : fur n n [] = pl n := fur_all ⟨n, by omega⟩
  rw [hf] at H
  clear hf
  go_enter Tryd.func55, Tryd.ntmps55
  go_wp2_with fail
  refine H.out.mono ?_
  rintro e w1 ⟨v, vs, rfl, hg, _, hb⟩
  obtain ⟨o, cap, rfl, hl⟩ := hg.lr
  have HL := Lib.hid hl
  have HB := Lib.hid hb
  clear hg hl hb
  go_wp2_with fail
  go_ret
  exact ⟨_, _, rfl, HL.out, HB.out⟩
theorem rall_bad (z : Int) (h : z < 1 ∨ 5 < z) (w : World) : Calls Tryd.prog 27 #[.int .i64 z] w (QRes 0 (fun _ => 0) 2 w) := by
  rcases h with h | h
  · go_enter Tryd.func27, Tryd.ntmps27
    go_wp2_with fail
    go_ret2
    exact ⟨_, _, rfl, ⟨Lz.nil, by omega⟩, Below.refl _ _⟩
  · go_enter Tryd.func27, Tryd.ntmps27
    go_wp2_with fail
    go_ret2
    exact ⟨_, _, rfl, ⟨Lz.nil, by omega⟩, Below.refl _ _⟩
theorem rall_good (n : Nat) (h1 : 1 ≤ n) (h5 : n ≤ 5) (w : World) :
    Calls Tryd.prog 27 #[.int .i64 (n : Int)] w fun e w' => ∃ o cap, e = .returned (.tuple #[.slice o (pl n).length cap, .int .i64 0]) ∧ Lr w' o n (pl n) ∧ Below w.heap.size w w' := by
  have H := Lib.hid (every_ok n h1 h5 w)
  go_enter Tryd.func27, Tryd.ntmps27
  go_wp2_with fail
  refine H.out.mono ?_
  rintro e w1 ⟨o, cap, rfl, hl, hb⟩
  have HL := Lib.hid hl
  have HB := Lib.hid hb
  clear hl hb
  go_wp2_with fail
  go_ret2
  exact ⟨_, _, rfl, HL.out, HB.out⟩

end Go.Proofs.YtgppdbiimlbpjaaDoor
