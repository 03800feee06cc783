/- Package permutation: Generate. -/
import Derived.Test.YtgppdbiimlbpjaaDoorRwK
import Derived.WalkKit
import Derived.WalkSpells
import Derived.WalkLawsBesides
import Derived.Handy
import Derived.Deep.QuietTactic
import Derived.BigQuiet
import Derived.Outline
import Derived.Laws.BitsAllLaws
import Derived.IntWalk
import Derived.Lib.SmallJoins
import Derived.Lib.Hide
import Derived.Deep.DeepCutAuto
import Derived.LoopTactic
import Derived.Deep.RegionWith
import Derived.Laws.CopyOwn
import Derived.Maps.OwnOps
import Derived.Maps.OwnSet
import Derived.Laws.OwnMore
import Derived.Maps.AppendAt
import Derived.Test.YtgppdbiimlbpjaaDoorShelF
namespace Go.Proofs.YtgppdbiimlbpjaaDoor
set_option linter.unusedVariables false
set_option linter.unusedSimpArgs false
open Go.RowKit

theorem gin_keep (S : Nat → List Nat) (x : List Nat) (G : List (List Nat)) : ∀ k, G.length ≤ (gin S x G k).length ∧ ∀ i, i < G.length → (gin S x G k).getD i [] = G.getD i []
  | 0 => ⟨Nat.le_refl _, fun _ _ => rfl⟩
  | k + 1 => by
    obtain ⟨h1, h2⟩ := gin_keep S x G k
    have h3 : gin S x G (k + 1) = gstep (cmp2 (S k) x) (gin S x G k) := rfl
    rw [h3]
    unfold gstep
    by_cases e : cmp2 (S k) x ∈ gin S x G k
    · rw [if_pos e]; exact ⟨h1, h2⟩
    · rw [if_neg e]
      refine ⟨by rw [List.length_append]; omega, fun i hi => ?_⟩
      rw [← h2 i hi, List.getD_eq_getElem?_getD, List.getD_eq_getElem?_getD, List.getElem?_append_left (by omega)]
theorem gl_step {S : Nat → List Nat} {K i : Nat} {G : List (List Nat)} (h : i < G.length) (h2 : i < 200) : gl S K (200 - i) i G = gl S K (200 - (i + 1)) (i + 1) (gin S (G.getD i []) G K) := by
  obtain ⟨m, hm⟩ : ∃ m, 200 - i = m + 1 := ⟨200 - i - 1, by omega⟩
  have hm2 : 200 - (i + 1) = m := by omega
  rw [hm, hm2]
  show (if i < G.length then _ else _) = _
  rw [if_pos h]
theorem gl_end {S : Nat → List Nat} {K i f : Nat} {G : List (List Nat)} (h : ¬ i < G.length) : gl S K f i G = G := by
  cases f with
  | zero => rfl
  | succ f => show (if i < G.length then _ else _) = _; rw [if_neg h]
theorem Grp.form {w : World} {R M n : Nat} {v : Value} {vs : List Value} {G : List (List Nat)} (h : Grp w R M n v vs G) : ∃ o cap, v = .slice o G.length cap := by
  rcases own_cases h.own with ⟨e, h0⟩ | ⟨b, cv, e, _⟩
  · exact ⟨none, 0, by rw [h0]; exact e⟩
  · exact ⟨_, cv, e⟩
theorem after_kv (n : Nat) (h5 : n ≤ 5) (l m : List Nat) (hm : m.length = n) (hb : ∀ i, i < n → fun_ m i < n) (o p : Option Addr) (cap cap' : Nat) (w : World) (hL : Lz w o n (zf (fun_ l))) (hL' : Lz w p n (zf (fun_ m))) : Calls Tryd.prog 50 #[.slice o n cap, .slice p n cap'] w fun e w' => e = .returned (.slice (some ⟨w.heap.size, 0, none⟩) n n) ∧ Box w' w.heap.size (vec n (zf (fun_ (cmp2 l m)))) 3 ∧ Below w.heap.size w w' :=
  (after_new n h5 _ _ hb o p cap cap' w hL hL').mono fun e w' ⟨h1, h2, h3⟩ => ⟨h1, by
    have e : vec n (zf fun i => fun_ l (fun_ m i)) = vec n (zf (fun_ (cmp2 l m))) := vec_congr fun i hi => by
      unfold zf
      rw [cmp2_at (by omega)]
    rw [← e]; exact h2, h3⟩
theorem key_kv (n : Nat) (h1 : 1 ≤ n) (h5 : n ≤ 5) (l : List Nat) (hl : l.length = n) (cap : Nat) (hcap : n ≤ cap) (o : Option Addr) (w : World) (hL : Lz w o n (zf (fun_ l))) : Calls Tryd.prog 58 #[.slice o n cap] w fun e w' => e = .returned (kv l) ∧ Below w.heap.size w w' :=
  (key_ok n h1 h5 cap hcap o _ w hL).mono fun e w' ⟨a, b⟩ => ⟨by rw [a, pad_eq hl fun _ _ => rfl], b⟩
theorem wpList_lookup_b (w : World) {ops : Array Oper} {rest : List Oper} {o : Oper} {a : Act} {Q : Exit → Act → World → Prop}
    (hg : o.guard = none) (m x : Operand) (hop : o.op = Op.lookup 87 m x false) (n b k : Nat) (D : DataW Unit) (G : List (List Nat)) (hF : Found n D G)
    (hm : a.eval m = .map (some b)) (hown : w.ownsMap Tryd.prog 85 boolR b k D) (l : List Nat) (hl : l.length = n) (hs : Small l) (hx : a.eval x = kv l) (r : Bool) (hr : decide (l ∈ G) = r)
    (hK : wpList Tryd.prog ops Q rest (a.put o.dst (.bool r)) w) : wpList Tryd.prog ops Q (o :: rest) a w :=
  wpList_lookup_bool w hg m x hop n b k D G hF hm hown l hl hs hx (by rw [hr]; exact hK)
/-- A slice of k permutations of n processes. -/
def Ps (w : World) (o : Option Addr) (K n : Nat) (S : Nat → List Nat) : Prop := 0 < K → ∃ b off, o = some ⟨b, off, none⟩ ∧ b < w.heap.size ∧ ∀ k, k < K → ∃ oc cc, w.cell? ⟨b, off + k, none⟩ = some (.slice oc n cc) ∧ Lq w oc n cc (zf (fun_ (S k)))
/-- The group that K permutations generate. -/
def grp (n : Nat) (S : Nat → List Nat) (K : Nat) : List (List Nat) := gl S K 200 0 [lo n fun i => i]

set_option maxRecDepth 100000 in
set_option maxHeartbeats 4000000 in
theorem gen_good (n : Nat) (h1 : 1 ≤ n) (h5 : n ≤ 5) (K : Nat) (hK : K ≤ 1024) (S : Nat → List Nat) (hS : ∀ k, k < K → S k ∈ pl n) (o : Option Addr) (cap : Nat) (w : World) (hL : Ps w o K n S) :
    Calls Tryd.prog 34 #[.int .i64 (n : Int), .slice o K cap] w fun e w' => ∃ o' cap', e = .returned (.tuple #[.slice o' (grp n S K).length cap', .int .i64 0]) ∧ Lpq w' o' (grp n S K).length n (inAll n (grp n S K)) ∧ Below w.heap.size w w' := by
  have hid : Good n fun i => i := ⟨h1, h5, fun p hp => hp, fun p q _ _ e => e⟩
  obtain ⟨i0, hi0, hz0, hz1, hz2⟩ := info_parts infoL
  have HI := Lib.hid (ident_good n h1 h5 w)
  have HC := Lib.hid (fun k (hk : k < K) oc cc W (h : Lq W oc n cc (zf (fun_ (S k)))) => by have := check_any n (zf (fun_ (S k))) oc cc W h; rwa [good_code (pl_good h1 h5 (hS k hk)).2] at this)
  have HL := Lib.hid hL
  have HS := Lib.hid hS
  obtain ⟨Rf, hRf⟩ : ∃ R, grp n S K = R := ⟨_, rfl⟩
  rw [hRf]
  have HRf := Lib.hid hRf
  have HInfo := Lib.hid hi0
  clear hL hS hRf
  go_enter Tryd.func34, Tryd.ntmps34
  go_wp2_with fail
  refine HI.out.mono ?_
  rintro e w1 ⟨o1, c1, rfl, hq1, hb1⟩
  have HQ1 := Lib.hid hq1
  have HB1 := Lib.hid hb1
  clear hq1 hb1
  go_wp2_with fail
  go_loopw [30] (fun j wr => ∃ k : Nat, k ≤ K ∧ j = .int .i64 (k : Int) ∧ wr = w1) (fun j _ => K - (intOf j).toNat)
  case atStart => exact ⟨0, by omega, by first | trivial | rfl, by first | trivial | rfl⟩
  case round =>
    obtain ⟨k, hk, rfl, rfl⟩ := hrel
    by_cases hlt : k < K
    · obtain ⟨bS, oS, rfl, hbS, hcS⟩ := HL.out (by omega)
      obtain ⟨oc, cc, e1, l1⟩ := hcS k hlt
      have e2 := (HB1.out.cell (p := ⟨bS, oS + k, none⟩) hbS).trans e1
      have HCk := Lib.hid (HC.out k hlt oc cc wr (l1.below HB1.out))
      have hk1 : (k : Int) < (K : Int) := by omega
      clear hcS e1 l1
      go_wp2_with fail
      refine HCk.out.mono ?_
      rintro e w' ⟨rfl, rfl⟩
      go_wp2_with fail
      go_roundw
      case rel => exact ⟨k + 1, by omega, by go_num, by first | trivial | rfl⟩
      case measure => simp [intOf]; omega
    · have ek : k = K := by omega
      subst ek
      clear hlt hk
      have hOne : ∃ g off, o1 = some ⟨g, off, none⟩ ∧ g < wr.heap.size ∧ ∀ i, i < n → wr.cell? ⟨g, off + i, none⟩ = some (.int .i64 (zf (fun_ (lo n fun i => i)) i)) := by
        obtain ⟨g, off, e, hg, hc⟩ := HQ1.out.1 (by omega)
        exact ⟨g, off, e, hg, fun i hi => by rw [hc i hi]; unfold zf; rw [lo_at hi]⟩
      obtain ⟨g1, f1, rfl, hg1, hc1⟩ := hOne
      have hloid : lo n (fun i => i) ∈ pl n := lo_mem hid
      have hlol : (lo n fun i => i).length = n := by simp [lo]
      have HSm := Lib.hid (pl_small h1 h5 hloid)
      have hc1n := HQ1.out.2
      have HK1 := Lib.hid (fun W (h : Lz W (some ⟨g1, f1, none⟩) n (zf (fun_ (lo n fun i => i)))) => key_kv n h1 h5 (lo n fun i => i) hlol c1 hc1n _ W h)
      -- the group's row, the map
      obtain ⟨Wa, hWa⟩ : ∃ Wa, wr.alloc (.cells #[.slice (some ⟨g1, f1, none⟩) n c1] 22) = Wa := ⟨_, rfl⟩
      have hWs : Wa.heap.size = wr.heap.size + 1 := by rw [← hWa]; exact World.size_alloc _ _
      have hbA : Below wr.heap.size wr Wa := by rw [← hWa]; exact (Below.refl _ _).alloc (Nat.le_refl _) _
      have hownA : Wa.ownsRow w.heap.size 22 1 (.slice (some ⟨wr.heap.size, 0, none⟩) 1 1) 1 [.slice (some ⟨g1, f1, none⟩) n c1] := by
        rw [← hWa]
        exact World.ownsRow_lit wr #[.slice (some ⟨g1, f1, none⟩) n c1] 1 HB1.out.size (by decide) rfl
      have hgA : Grp Wa w.heap.size (wr.heap.size + 1) n (.slice (some ⟨wr.heap.size, 0, none⟩) 1 1) [.slice (some ⟨g1, f1, none⟩) n c1] [lo n fun i => i] := by
        refine ⟨hownA, by simp [Value.ownBlock], fun c hc => ?_, fun u hu => by rw [List.mem_singleton] at hu; exact ⟨_, _, _, hu, HQ1.out.2⟩⟩
        have hc0 : c = 0 := by simp at hc; omega
        subst hc0
        exact ⟨g1, f1, c1, rfl, by omega, fun i hi => (hbA.cell (p := ⟨g1, f1 + i, none⟩) hg1).trans (hc1 i hi), by omega, by simp [Value.ownBlock]; omega⟩
      have HGA := Lib.hid hgA
      have HBA := Lib.hid (HB1.out.trans (Joins.below_le hbA HB1.out.size))
      have HWs := Lib.hid hWs
      have HL1 := Lib.hid (show Lz Wa (some ⟨g1, f1, none⟩) n (zf (fun_ (lo n fun i => i))) from fun _ => ⟨g1, f1, rfl, by omega, fun i hi => (hbA.cell (p := ⟨g1, f1 + i, none⟩) hg1).trans (hc1 i hi)⟩)
      obtain ⟨M, hM⟩ : ∃ M, wr.heap.size + 1 = M := ⟨_, rfl⟩
      obtain ⟨Wb, hWb⟩ : ∃ Wb, Wa.alloc (.map #[] 0) = Wb := ⟨_, rfl⟩
      have hmk : (Instr.makeMap 87 none).run Tryd.prog Wa = .ok (.map (some M)) Wb := by
        have := run_makeMap (P := Tryd.prog) 87 Wa
        rw [hWb, hWs, hM] at this
        exact this
      have hbB : Below Wa.heap.size Wa Wb := by rw [← hWb]; exact (Below.refl _ _).alloc (Nat.le_refl _) _
      have hWbs : Wb.heap.size = M + 1 := by rw [← hWb, World.size_alloc]; omega
      have howB : Wb.ownsMap Tryd.prog 85 boolR M 0 (.map []) := by
        rw [← hWb, ← hM, ← hWs]
        exact World.ownsMap_made Wa Tryd.prog 85 _
      have HOB := Lib.hid howB
      have HGB := Lib.hid ((hM ▸ HGA.out : Grp Wa w.heap.size M n _ _ _).below hbB)
      have HLB := Lib.hid (HL1.out.below hbB)
      have HBB := Lib.hid (HBA.out.trans (Joins.below_le hbB (by have := HB1.out.size; omega)))
      have hMw : w.heap.size ≤ M := by have := HB1.out.size; omega
      have HWbs := Lib.hid hWbs
      have HM := Lib.hid hM
      clear hbB howB hWb hWs hM hWbs HGA HBA HL1
      go_wp2_with fail
      refine (HK1.out _ HLB.out).mono ?_
      rintro e w2 ⟨rfl, hb2⟩
      have HOC := Lib.hid (owns_block HOB.out (hb2.block M (by have := HWbs.out; omega)))
      have HGC := Lib.hid (HGB.out.below hb2)
      have HBC := Lib.hid (HBB.out.trans (Joins.below_le hb2 HBB.out.size))
      have hs2 := hb2.size
      have HS2 := Lib.hid (show M < w2.heap.size by have := HWbs.out; omega)
      clear hb2 hs2 HOB HGB HBB HLB
      go_wp2_with (refine wpList_found _ rfl _ _ _ (.inr rfl) n M 0 h5 (by omega) (.map []) [] (Found.nil n) rfl HOC.out (lo n fun i => i) hlol HSm.out rfl rfl ?_; intro w3 how3 hF3 hg3; have HO3 := Lib.hid how3; have HF3 := Lib.hid hF3; have HG3 := Lib.hid (HGC.out.map hg3); have HB3 := Lib.hid (HBC.out.grown hg3 HBC.out.size (fun k hk => by cases hk; exact hMw)); have HS3 := Lib.hid (Nat.lt_of_lt_of_le HS2.out hg3.size); clear how3 hF3 hg3)
      have HMw := Lib.hid hMw
      have h00 : Gs n [lo n fun i => i] := ⟨by simp, fun l hl => by simp at hl; subst hl; exact lo_mem hid⟩
      have HG00 := Lib.hid h00
      have HR0 : Hid (gl S k (200 - 0) 0 [lo n fun i => i] = Rf) := HRf
      clear h00 hid hMw HI HQ1 HK1 HC hmk hlol HSm hg1 hc1n HOC HGC HBC HS2
      go_loopw [11, 13] (fun v j wl => ∃ (i : Nat) (G : List (List Nat)) (vs : List Value) (D : DataW Unit), i ≤ G.length ∧ 0 < G.length ∧ j = .int .i64 (i : Int) ∧ Grp wl w.heap.size M n v vs G ∧ wl.ownsMap Tryd.prog 85 boolR M G.length D ∧ Found n D G ∧ Gs n G ∧ gl S k (200 - i) i G = Rf ∧ Below w.heap.size w wl ∧ M < wl.heap.size) (fun _ j _ => 200 - (intOf j).toNat)
      case atStart => exact ⟨0, [lo n fun i => i], _, _, by omega, by simp, rfl, HG3.out, HO3.out, HF3.out, HG00.out, HR0.out, HB3.out, HS3.out⟩
      case round =>
        clear HG3 HO3 HF3 HG00 HR0 HB3 HS3
        obtain ⟨i, G, vs, D, hi, hpos, rfl, hgp, how, hfo, hgs, hgl, hbe, hms⟩ := hrel
        obtain ⟨len, hlen⟩ : ∃ len, G.length = len := ⟨_, rfl⟩
        obtain ⟨ov, cv, hv⟩ := hgp.form
        rw [hlen] at hv
        subst hv
        have HGp := Lib.hid hgp
        have HOw := Lib.hid how
        have HFo := Lib.hid hfo
        have HGs := Lib.hid hgs
        have HGl := Lib.hid hgl
        have HBe := Lib.hid hbe
        have HMs := Lib.hid hms
        have h120 := hgs.len h5
        have HLen := Lib.hid hlen
        rw [hlen] at hi h120 hpos
        clear hgp how hfo hgs hgl hbe hms hlen
        by_cases hlt : i < len
        · have hi1 : (i : Int) < (len : Int) := by omega
          have hx := HGs.out.at_ (show i < G.length by rw [HLen.out]; exact hlt)
          have HX := Lib.hid hx
          have HXg := Lib.hid (pl_good h1 h5 hx)
          clear hx
          obtain ⟨x, hxx⟩ : ∃ x, G.getD i [] = x := ⟨_, rfl⟩
          rw [hxx] at HX HXg
          have HXX := Lib.hid hxx
          clear hxx
          go_wp2_with fail
          go_loopw [11, 58] (fun v j wl => ∃ (kk : Nat) (G' : List (List Nat)) (vs : List Value) (D : DataW Unit), kk ≤ k ∧ j = .int .i64 (kk : Int) ∧ G' = gin S x G kk ∧ Grp wl w.heap.size M n v vs G' ∧ wl.ownsMap Tryd.prog 85 boolR M G'.length D ∧ Found n D G' ∧ Below w.heap.size w wl ∧ M < wl.heap.size) (fun _ j _ => k - (intOf j).toNat)
          case atStart => exact ⟨0, G, _, _, by omega, rfl, rfl, HGp.out, (by rw [HLen.out]; exact (HLen.out ▸ HOw.out)), HFo.out, HBe.out, HMs.out⟩
          case round =>
            clear HGp HOw HFo HBe HMs
            obtain ⟨kk, G', vs', D', hkk, rfl, hG', hgp, how, hfo, hbe, hms⟩ := hrel
            have hkeep := gin_keep S x G kk
            have hgs' := HGs.out.gin h1 h5 HS.out HX.out kk hkk
            rw [← hG'] at hkeep hgs'
            have h120' := hgs'.len h5
            obtain ⟨len', hlen'⟩ : ∃ l, G'.length = l := ⟨_, rfl⟩
            obtain ⟨ov', cv', hv⟩ := hgp.form
            rw [hlen'] at hv
            subst hv
            have hlt' : i < G'.length := by have := HLen.out; omega
            have HG' := Lib.hid hG'
            have HGp := Lib.hid hgp
            have HOw := Lib.hid how
            have HFo := Lib.hid hfo
            have HBe := Lib.hid hbe
            have HMs := Lib.hid hms
            have HGs' := Lib.hid hgs'
            have HLen' := Lib.hid hlen'
            have hge := hkeep.2 i (by have := HLen.out; omega)
            rw [HXX.out] at hge
            have hle := hkeep.1
            rw [HLen.out] at hle
            have HLe := Lib.hid hle
            clear hG' how hfo hbe hms hkeep hgs' hle
            by_cases hkl : kk < k
            · obtain ⟨bS, oS, rfl, hbS, hcS⟩ := HL.out (by omega)
              obtain ⟨oc, cc, e1, l1⟩ := hcS kk hkl
              have q1 := (HBe.out.cell (p := ⟨bS, oS + kk, none⟩) hbS).trans e1
              have l1' := l1.1.below HBe.out
              obtain ⟨bG, cG, gx, ox, kx, hvG, hbG, _, q2, hgx, hcx⟩ := hgp.at_ hlt'
              rw [hge] at hcx
              rw [hlen'] at hvG
              cases hvG
              have HAf := Lib.hid (after_kv n h5 (S kk) x HXg.out.1 HXg.out.2.perm.lt oc (some ⟨gx, ox, none⟩) cc kx wr l1' (fun _ => ⟨gx, ox, rfl, hgx, hcx⟩))
              have hbm := cmp2_mem h1 h5 (HS.out kk hkl) HX.out
              have HBg := Lib.hid (pl_good h1 h5 hbm)
              have HBs := Lib.hid (pl_small h1 h5 hbm)
              obtain ⟨b, hb⟩ : ∃ b, cmp2 (S kk) x = b := ⟨_, rfl⟩
              rw [hb] at HAf HBg HBs
              have hst : gin S x G (kk + 1) = gstep b G' := by
                show gstep (cmp2 (S kk) x) (gin S x G kk) = _
                rw [hb, ← HG'.out]
              have HSt := Lib.hid hst
              have hk1 : (kk : Int) < (k : Int) := by omega
              have hi2 : (i : Int) < (len' : Int) := by omega
              have HbG := Lib.hid hbG
              clear hcS e1 l1 l1' hcx hgp hb hst hbm hge hlt' hgx hbG
              go_wp2_with fail
              refine HAf.out.mono ?_
              rintro e w1 ⟨rfl, hbx, hb1⟩
              have HBx := Lib.hid hbx
              have HB1 := Lib.hid hb1
              have HOw1 := Lib.hid (owns_block HOw.out (hb1.block M HMs.out))
              have HGp1 := Lib.hid (HGp.out.below hb1)
              have HBe1 := Lib.hid (HBe.out.trans (Joins.below_le hb1 HBe.out.size))
              have HMs1 := Lib.hid (Nat.lt_of_lt_of_le HMs.out hb1.size)
              have HK2 := Lib.hid (fun W (h : Lz W (some ⟨wr.heap.size, 0, none⟩) n (zf (fun_ b))) => key_kv n h1 h5 b HBg.out.1 n (Nat.le_refl _) _ W h)
              clear hbx hb1 HOw HGp HBe q1 q2
              go_wp2_with fail
              refine (HK2.out _ HBx.out.lz).mono ?_
              rintro e w2 ⟨rfl, hb2⟩
              have HBx2 := Lib.hid (HBx.out.below hb2 HBx.out.lt)
              have HOw2 := Lib.hid (owns_block HOw1.out (hb2.block M HMs1.out))
              have HGp2 := Lib.hid (HGp1.out.below hb2)
              have HBe2 := Lib.hid (HBe1.out.trans (Joins.below_le hb2 HBe1.out.size))
              have HMs2 := Lib.hid (Nat.lt_of_lt_of_le HMs1.out hb2.size)
              clear hb2 HOw1 HGp1 HBe1
              by_cases hin : b ∈ G'
              · have HD := Lib.hid (decide_eq_true hin)
                have hG2 : gstep b G' = G' := by unfold gstep; rw [if_pos hin]
                have HG2 := Lib.hid hG2
                clear hin hG2
                go_wp2_with (at_lookup; go_loud (refine wpList_lookup_b _ rfl _ _ rfl n M G'.length D' G' HFo.out rfl HOw2.out b HBg.out.1 HBs.out rfl true HD.out ?_))
                go_roundw
                case rel => exact ⟨kk + 1, G', _, _, by omega, by go_num, by rw [HSt.out, HG2.out], HGp2.out, HOw2.out, HFo.out, HBe2.out, HMs2.out⟩
                case measure => simp [intOf]; omega
              · have HD := Lib.hid (decide_eq_false hin)
                have hG2 : gstep b G' = G' ++ [b] := by unfold gstep; rw [if_neg hin]
                have HG2 := Lib.hid hG2
                clear hin hG2
                go_wp2_with (at_lookup; go_loud (refine wpList_lookup_b _ rfl _ _ rfl n M G'.length D' G' HFo.out rfl HOw2.out b HBg.out.1 HBs.out rfl false HD.out ?_))
                refine (HK2.out _ HBx2.out.lz).mono ?_
                rintro e w3 ⟨rfl, hb3⟩
                have HBx3 := Lib.hid (HBx2.out.below hb3 HBx2.out.lt)
                have HOw3 := Lib.hid (owns_block HOw2.out (hb3.block M HMs2.out))
                have HGp3 := Lib.hid (HGp2.out.below hb3)
                have HBe3 := Lib.hid (HBe2.out.trans (Joins.below_le hb3 HBe2.out.size))
                have HMs3 := Lib.hid (Nat.lt_of_lt_of_le HMs2.out hb3.size)
                clear hb3 HOw2 HGp2 HBe2 HBx2
                go_wp2_with (first
                  | (at_mapUpdate; go_loud (refine wpList_found _ rfl _ _ _ (.inl rfl) n M G'.length h5 (by omega) D' G' HFo.out rfl HOw3.out b HBg.out.1 HBs.out rfl rfl ?_; intro w4 how4 hF4 hg4; have HO4 := Lib.hid how4; have HF4 := Lib.hid hF4; have HGp4 := Lib.hid (HGp3.out.map hg4); have HBx4 := Lib.hid (HBx3.out.grown hg4 (by intro e; have := HMs.out; have := Option.some.inj e; omega)); have HBe4 := Lib.hid (HBe3.out.grown hg4 HBe3.out.size (fun k hk => by cases hk; exact HMw.out)); have HMs4 := Lib.hid (Nat.lt_of_lt_of_le HMs3.out hg4.size); have HOn4 := Lib.hid (show w4.ownsRow w.heap.size 22 1 _ len' vs' by have h := HGp4.out.own; rw [HLen'.out] at h; exact h); have hs4 := HBe4.out.size; clear how4 hF4 hg4))
                  | (at_builtin; go_loud (refine wpList_append_own_at _ rfl _ _ 45 rfl w.heap.size 22 i0 (.slice none 0 0) 1 24 Tryd.underlying45 hi0 hz0 hz1 hz2 rfl (by decide) _ len' vs' rfl (HOn4.out.alloc _) ⟨w4.heap.size, 0, none⟩ 1 1 [_] rfl rfl (cell_one_new _ _ _) (by intro x hx; simp at hx; rw [hx]; rfl) (by unfold maxLen; omega) (by omega) (by simp; omega) ?_; intro v' w5 hown hgrow _ hat; have HOw5 := Lib.hid hown; have HGr5 := Lib.hid hgrow; have HAt5 := Lib.hid hat; clear hown hgrow hat)))
                have hst5 := (HGp4.out.below ((Below.refl _ _).alloc (Nat.le_refl _) (.cells #[.slice (some ⟨wr.heap.size, 0, none⟩) n n] 22))).step (l := b) (g := wr.heap.size) (off := 0) (cap := n) (by have := HMs4.out; simp; omega) (by have := HBx4.out.lt; simp; omega) (fun i hi => by
                  have := (HBx4.out.alloc (.cells #[.slice (some ⟨wr.heap.size, 0, none⟩) n n] 22)).cell i
                  rw [Nat.zero_add, this, vec_get _ hi]) (by have := HMs.out; omega) (by intro e; have := HbG.out; have e2 : bG = wr.heap.size := Option.some.inj e; omega) (by rw [HLen'.out]; exact HOw5.out) HGr5.out HAt5.out (Nat.le_refl _)
                have HSt5 := Lib.hid hst5
                have HO5 := Lib.hid ((HO4.out.alloc (.cells #[.slice (some ⟨wr.heap.size, 0, none⟩) n n] 22)).kept HGr5.out (by intro e; have := HbG.out; have := HMs.out; exact HGp4.out.ne e.symm))
                have HB5 := Lib.hid ((HBe4.out.alloc HBe4.out.size (.cells #[.slice (some ⟨wr.heap.size, 0, none⟩) n n] 22)).grown HGr5.out (by simp; omega) (fun j e => (HGp4.out.own.lt j e).1))
                have HS5 := Lib.hid (show M < w5.heap.size by have h5a := HGr5.out.size; have h5b := HMs4.out; rw [World.size_alloc] at h5a; omega)
                clear hst5 HOw5 HGr5 HAt5
                go_roundw
                case rel => exact ⟨kk + 1, G' ++ [b], _, _, by omega, by go_num, by rw [HSt.out, HG2.out], HSt5.out, (by rw [List.length_append, List.length_singleton]; exact HO5.out), HF4.out, HB5.out, HS5.out⟩
                case measure => simp [intOf]; omega
            · have ek : kk = k := by omega
              subst ek
              clear hkl hge hlt'
              go_wp2_with fail
              go_roundw
              case rel => exact ⟨i + 1, G', _, _, by have := HLe.out; have := HLen'.out; omega, by have := HLe.out; have := HLen'.out; omega, by go_num, HGp.out, HOw.out, HFo.out, HGs'.out, by have := HGl.out; rw [gl_step (by rw [HLen.out]; exact hlt) (by omega), HXX.out, ← HG'.out] at this; exact this, HBe.out, HMs.out⟩
              case measure => simp [intOf]; omega
        · have e : i = len := by omega
          subst e
          have hR : G = Rf := by have := HGl.out; rwa [gl_end (by rw [HLen.out]; omega)] at this
          subst hR
          have HSo := Lib.hid (sort_grp HGp.out h1 h5 HGs.out (by rw [HLen.out]; exact hpos))
          clear hlt
          go_wp2_with fail
          refine HSo.out.mono ?_
          rintro e w' ⟨⟨u, rfl⟩, ⟨o2, c2, e2, hlp⟩, hb⟩
          cases e2
          have HLp := Lib.hid hlp
          have HBf := Lib.hid (HBe.out.trans hb)
          clear hlp hb
          go_wp2_with fail
          go_ret2
          exact ⟨_, _, rfl, HLp.out, HBf.out⟩

end Go.Proofs.YtgppdbiimlbpjaaDoor
