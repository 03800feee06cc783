/- LexerJoins. -/
import Derived.Test.YtgckopicmobbgaaDoorLyQ
import Derived.WalkKit
import Derived.WalkSpells
import Derived.WalkLawsBesides
import Derived.Handy
import Derived.Deep.QuietTactic
import Derived.BigQuiet
import Derived.Outline
import Derived.Laws.BitsAllLaws
import Derived.IntWalk
import Derived.Lib.SmallJoins
import Derived.Lib.Hide
import Derived.Deep.DeepCutAuto
import Derived.LoopTactic
import Derived.Deep.RegionWith
import Derived.Lib.ConvBytes
import Derived.OwnWalk
import Derived.Laws.MakeOwn
import Derived.Laws.IdiomStrings
import Derived.Deep.Slices
import Derived.ProofKit
import Derived.OpenShut
import Derived.ChangeOld
import Derived.ChangeSlices
import Derived.ChangeArms
namespace Go.Proofs.YtgckopicmobbgaaDoor
set_option linter.unusedVariables false
set_option linter.unusedSimpArgs false
open Go.ChangeShapes Go.WideShapes Go.ChangeAt Go.RowKit Lex

/-- What a list of tokens holds: texts of bytes, kinds of 64 bits. -/
structure TokP (l : List Tj) : Prop where
  byte : ∀ t ∈ l, ∀ c ∈ t.tx, c < 256
  kd : ∀ t ∈ l, -9223372036854775808 ≤ t.kd ∧ t.kd ≤ 9223372036854775807
set_option maxRecDepth 100000 in
theorem tok_cells {H : Type} {enc : TypeId × Value → H} {W : World} {n : Nat} {cs : List Value} {y : DataW H × List MemPlace} (h : DataW.trod enc Tryd.prog W 0 (fun _ => true) true n 32 cs = some y) : ∃ t : Tj, cs = [.int .i64 t.kd, .string (mk t.tx), .int .i64 t.pl] ∧ (∀ c ∈ t.tx, c < 256) ∧ -9223372036854775808 ≤ t.kd ∧ t.kd ≤ 9223372036854775807 := by
  obtain ⟨ys, n', _, _, hlen, hyl, hf⟩ := DataW.trod_struct Tryd.underlying32 h
  have hc3 : Tryd.prog.cellsOf 32 = 3 := by kernel_rfl
  have hci : Tryd.prog.cellsOf 3 = 1 := by kernel_rfl
  have hcst : Tryd.prog.cellsOf 9 = 1 := by kernel_rfl
  rw [hc3] at hlen
  have hyl3 : ys.length = 3 := hyl
  match cs, hlen with
  | [v0, v1, v2], _ =>
    match ys, hyl3 with
    | [y0, y1, y2], _ =>
      have f0 : DataW.trod enc Tryd.prog W 0 (fun _ => true) true n' 3 (([v0, v1, v2].drop 0).take (Tryd.prog.cellsOf 3)) = some y0 := hf 0 _ rfl
      have f1 : DataW.trod enc Tryd.prog W 0 (fun _ => true) true n' 9 (([v0, v1, v2].drop 1).take (Tryd.prog.cellsOf 9)) = some y1 := hf 1 _ rfl
      have f2 : DataW.trod enc Tryd.prog W 0 (fun _ => true) true n' 3 (([v0, v1, v2].drop 2).take (Tryd.prog.cellsOf 3)) = some y2 := hf 2 _ rfl
      rw [hci] at f0 f2
      rw [hcst] at f1
      obtain ⟨k, hk, _, hw⟩ := DataW.trod_int Tryd.underlying3 (show DataW.trod enc Tryd.prog W 0 (fun _ => true) true n' 3 [v0] = some y0 from f0)
      obtain ⟨s, hs, _, _⟩ := DataW.trod_string Tryd.underlying9 (show DataW.trod enc Tryd.prog W 0 (fun _ => true) true n' 9 [v1] = some y1 from f1)
      obtain ⟨p, hp, _, _⟩ := DataW.trod_int Tryd.underlying3 (show DataW.trod enc Tryd.prog W 0 (fun _ => true) true n' 3 [v2] = some y2 from f2)
      injection hk with hk
      injection hs with hs
      injection hp with hp
      subst hk
      subst hs
      subst hp
      exact ⟨⟨k, bl s, p⟩, by rw [mk_bl], bl_lt s, bounds_i64 hw⟩
theorem toks_of {H : Type} {enc : TypeId × Value → H} {W : World} {o : Option Addr} {len cap : Nat} {x : DataW H × List MemPlace} (h : ∃ fuel, DataW.trod enc Tryd.prog W 0 (fun _ => true) true fuel 24 (Value.slice o len cap).cells.toList = some x) : ∃ l : List Tj, l.length = len ∧ Lt W o l ∧ TokP l := by
  obtain ⟨fuel, hf⟩ := h
  rcases Deep.open_slice Tryd.underlying24 hf with ⟨hcs, _⟩ | ⟨a, len', cap', m, n, D, Pl, hcs, _, hl, hm, hmm, _, hi⟩
  · simp [Value.cells] at hcs
    obtain ⟨rfl, rfl, rfl⟩ := hcs
    exact ⟨[], rfl, fun h => by simp at h, ⟨fun t ht => by simp at ht, fun t ht => by simp at ht⟩⟩
  · simp [Value.cells] at hcs
    obtain ⟨rfl, rfl, rfl⟩ := hcs
    have hlm : len ≤ m := by rw [hmm]; split <;> omega
    have hc3 : Tryd.prog.cellsOf 32 = 3 := by kernel_rfl
    rw [hc3] at hi
    have each : ∀ i, i < m → ∃ t : Tj, (W.cell? (a.add (i * 3)) = some (.int .i64 t.kd) ∧ W.cell? ((a.add (i * 3)).add 1) = some (.string (mk t.tx)) ∧ W.cell? ((a.add (i * 3)).add 2) = some (.int .i64 t.pl)) ∧ (∀ c ∈ t.tx, c < 256) ∧ -9223372036854775808 ≤ t.kd ∧ t.kd ≤ 9223372036854775807 := fun i him => by
      obtain ⟨cs', hc, ht⟩ := hi i him
      obtain ⟨t, rfl, h1, h2⟩ := tok_cells ht
      obtain ⟨_, _, hat⟩ := World.cells?_some hc
      have h0 := hat 0 (by omega)
      rw [show (a.add (i * 3)).add 0 = a.add (i * 3) by simp [Addr.add]] at h0
      exact ⟨t, ⟨h0, hat 1 (by omega), hat 2 (by omega)⟩, h1, h2⟩
    obtain ⟨T, hT⟩ := Deep.choose_lt each
    have hget : ∀ i, i < len → ((List.range len).map T).getD i default = T i := fun i hi => by
      rw [List.getD_eq_getElem?_getD, List.getElem?_map, List.getElem?_range hi]
      rfl
    refine ⟨(List.range len).map T, by simp, fun hn => ?_, ⟨fun t ht => ?_, fun t ht => ?_⟩⟩
    · simp at hn
      obtain ⟨ab, ao, asp⟩ := a
      have hs : asp = none := by simpa [Addr.add] using World.cell?_spot (hT 0 (by omega)).1.1
      subst hs
      have hadd : ∀ o k, (⟨ab, o, none⟩ : Addr).add k = ⟨ab, o + k, none⟩ := fun o k => by by_cases h : k = 0 <;> simp [Addr.add, h]
      have hcc : ∀ i, i < len → W.cell? ⟨ab, ao + i * 3, none⟩ = some (.int .i64 (T i).kd) ∧ W.cell? ⟨ab, ao + i * 3 + 1, none⟩ = some (.string (mk (T i).tx)) ∧ W.cell? ⟨ab, ao + i * 3 + 2, none⟩ = some (.int .i64 (T i).pl) := fun i hi => by
        have h := (hT i (by omega)).1
        rw [hadd, hadd, hadd] at h
        exact h
      refine ⟨ab, ao, rfl, ?_, fun i hi => ?_⟩
      · rcases Nat.lt_or_ge ab W.heap.size with h | h
        · exact h
        · have := (hcc 0 hn).1
          simp [World.cell?, Array.getElem?_eq_none h] at this
      · have hi2 : i < len := by simpa using hi
        rw [hget i hi2]
        exact hcc i hi2
    · obtain ⟨i, hi, rfl⟩ := List.mem_map.1 ht
      exact (hT i (by have := List.mem_range.1 hi; omega)).2.1
    · obtain ⟨i, hi, rfl⟩ := List.mem_map.1 ht
      exact (hT i (by have := List.mem_range.1 hi; omega)).2.2
set_option maxRecDepth 100000 in
set_option maxHeartbeats 4000000 in
theorem joins_ok (l : List Tj) (n : Nat) (hn : l.length = n) (hP : TokP l) (o : Option Addr) (cap : Nat) (w : World) (hL : Lt w o l) (hG : WG w) : Calls Tryd.prog 4 #[.slice o n cap] w fun e w' => e = .returned (.bool true) ∧ Below w.heap.size w w' := by
  have G := Lib.hid hG
  by_cases hl : 60 < n
  · have hl1 : (60 : Int) < (n : Int) := by omega
    clear hl hG hL hP hn
    go_enter Tryd.func4, Tryd.ntmps4
    go_wp2_with fail
    refine (awake_ok _ G.out).mono ?_
    rintro e W1 ⟨rfl, hb⟩
    have B := Lib.hid hb
    clear hb
    go_wp2_with fail
    go_ret
    exact ⟨rfl, B.out⟩
  · have hl1 : ¬ (60 : Int) < (n : Int) := by omega
    have HL := Lib.hid hL
    have HP := Lib.hid hP
    have HN := Lib.hid hn
    have HN60 := Lib.hid hl
    clear hl hG hL hP hn
    go_enter Tryd.func4, Tryd.ntmps4
    go_wp2_with fail
    go_loopw [15] (fun j wr => ∃ i : Nat, i ≤ n ∧ j = .int .i64 (i : Int) ∧ Below w.heap.size w wr ∧ ∀ k, k < i → (l.getD k default).tx.length ≤ 60) (fun j _ => n - (intOf j).toNat)
    case atStart => exact ⟨0, by omega, by first | trivial | rfl, Below.refl _ _, fun k hk => by omega⟩
    case round =>
      obtain ⟨i, hi, rfl, hbe, hsm⟩ := hrel
      by_cases hlt : i < n
      · have hi1 : (i : Int) < (n : Int) := by omega
        have hil : i < l.length := by rw [HN.out]; exact hlt
        obtain ⟨bl_, of, rfl, hblt, hcl⟩ := (HL.out.below hbe) (by omega)
        obtain ⟨hc0, hc1, hc2⟩ := hcl i hil
        have HSm := Lib.hid hsm
        have HBe := Lib.hid hbe
        obtain ⟨t, ht⟩ : ∃ t, l.getD i default = t := ⟨_, rfl⟩
        have HT := Lib.hid ht
        obtain ⟨kd, tx, pl⟩ := t
        rw [ht] at hc0 hc1 hc2
        dsimp only at hc0 hc1 hc2
        have hsz := mk_size tx
        obtain ⟨tb, htb⟩ : ∃ tb, mk tx = tb := ⟨_, rfl⟩
        rw [htb] at hc1 hsz
        have HSz := Lib.hid hsz
        clear hcl hsm hbe ht hil htb hsz
        by_cases h60 : 60 < tb.size
        · have hl2 : (60 : Int) < (tb.size : Int) := by omega
          have hal : Below w.heap.size w (wr.alloc (.cells #[.int .i64 kd, .string tb, .int .i64 pl] 32)) := HBe.out.alloc HBe.out.size _
          have G2 := Lib.hid (G.out.below hal)
          have HAl := Lib.hid hal
          clear h60 hal
          go_wp2_with fail
          refine (awake_ok _ G2.out).mono ?_
          rintro e W1 ⟨rfl, hb⟩
          have B := Lib.hid (HAl.out.trans (Joins.below_le hb HAl.out.size))
          clear hb
          go_wp2_with fail
          go_ret
          exact ⟨rfl, B.out⟩
        · have hl2 : ¬ (60 : Int) < (tb.size : Int) := by omega
          have HSm2 := Lib.hid (show ∀ k, k < i + 1 → (l.getD k default).tx.length ≤ 60 from fun k hk => by
            by_cases e : k = i
            · subst e
              rw [HT.out]
              have := HSz.out
              show tx.length ≤ 60
              omega
            · exact HSm.out k (by omega))
          clear h60
          go_wp2_with fail
          go_roundw
          case rel => exact ⟨i + 1, by omega, by go_num, HBe.out.alloc HBe.out.size _, HSm2.out⟩
          case measure => simp [intOf]; omega
      · obtain rfl : i = n := by omega
        have hfew : FewJ l := ⟨by have := HN60.out; rw [HN.out]; omega, fun t ht => by
          obtain ⟨k, hk, rfl⟩ := List.mem_iff_getElem.1 ht
          have := hsm k (by rw [← HN.out]; exact hk)
          rw [List.getD_eq_getElem?_getD, List.getElem?_eq_getElem hk] at this
          show l[k].tx.length ≤ 200
          have e : (some l[k]).getD default = l[k] := rfl
          rw [e] at this
          omega, HP.out.byte, HP.out.kd⟩
        have HA := Lib.hid (fun W h k => join_any l hfew o cap W h k)
        have HB := Lib.hid (fun W h => rjoin l hfew o cap W h)
        rw [HN.out] at HA HB
        obtain ⟨r, hr⟩ : ∃ r, joinV l = r := ⟨_, rfl⟩
        obtain ⟨tx, c⟩ := r
        rw [hr] at HA HB
        have HBe := Lib.hid hbe
        have L1 := Lib.hid (HL.out.below hbe)
        replace G := Lib.hid (G.out.below hbe)
        clear hbe hsm hlt hfew hr
        go_wp2_with fail
        refine (HA.out _ L1.out G.out.sg).mono ?_
        rintro e W1 ⟨rfl, hb⟩
        have B1 := Lib.hid (HBe.out.trans (Joins.below_le hb HBe.out.size))
        replace L1 := Lib.hid (L1.out.below hb)
        replace G := Lib.hid (G.out.below hb)
        clear hb
        dsimp only
        obtain ⟨tb, htb⟩ : ∃ tb, mk tx = tb := ⟨_, rfl⟩
        go_wp2_with fail
        refine (HB.out _ L1.out).mono ?_
        rintro e W2 ⟨rfl, hb⟩
        have B2 := Lib.hid (B1.out.trans (Joins.below_le hb B1.out.size))
        replace G := Lib.hid (G.out.below hb)
        clear hb
        dsimp only
        go_wp2_with fail
        refine (awake_ok _ G.out).mono ?_
        rintro e W3 ⟨rfl, hb⟩
        have B3 := Lib.hid (B2.out.trans (Joins.below_le hb B2.out.size))
        clear hb
        go_wp2_with fail
        go_ret
        exact ⟨rfl, B3.out⟩

end Go.Proofs.YtgckopicmobbgaaDoor
