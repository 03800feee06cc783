/- graph.All of the package: the list of all graphs of at most four processes. -/
import Derived.Test.YtacnhklhimogkaaDoorAlM
import Derived.Test.YtacnhklhimogkaaDoorGcC
import Derived.Deep.DeepCutAuto
import Derived.Test.YtacnhklhimogkaaDoorGcB
import Derived.Test.YtacnhklhimogkaaDoorGrN
import Derived.Test.YtacnhklhimogkaaDoorPmA
import Derived.Test.YtacnhklhimogkaaDoorPmM
import Derived.Test.YtacnhklhimogkaaDoorPmD
import Derived.Test.YtacnhklhimogkaaDoorGrR
import Derived.Test.YtacnhklhimogkaaDoorTb
import Derived.LoopTactic
import Derived.Deep.RegionWith
import Derived.WalkKit
import Derived.WalkSpells
import Derived.WalkLawsBesides
import Derived.Handy
import Derived.Deep.QuietTactic
import Derived.BigQuiet
import Derived.Outline
import Derived.Laws.BitsAllLaws
import Derived.IntWalk
import Derived.Lib.SmallJoins
import Derived.Lib.Hide
namespace Go.Proofs.YtacnhklhimogkaaDoor
set_option linter.unusedVariables false
set_option linter.unusedSimpArgs false
open Go.RowKit

theorem infoG : (Tryd.prog.info? 24).map (fun i => (i.zero, i.size, i.bytes)) = some (some (.agg #[.int .i64 0, .int .i64 0, .int .i64 0, .int .i64 0, .int .i64 0, .int .i64 0]), 6, 48) := by kernel_rfl
/-- A row of graphs of the call's own, that does not lie in block G; while it is empty it is nil. -/
def OwnG (w : World) (R G : Nat) (v : Value) (n : Nat) (l : List (Nat → Nat)) : Prop :=
  w.ownsRow R 24 6 v l.length (flat n l) ∧ (l.length = 0 → v = .slice none 0 0) ∧ v.ownBlock ≠ some G
theorem OwnG.pre {w : World} {R G : Nat} {v : Value} {n : Nat} {l : List (Nat → Nat)} (h : OwnG w R G v n l) : w.ownsRow (if l.length = 0 then G + 1 else R) 24 6 v l.length (flat n l) := by
  by_cases h0 : l.length = 0
  · have h1 := h.1
    rw [if_pos h0, h.2.1 h0]
    rw [h.2.1 h0] at h1
    exact ⟨h1.1, .inl ⟨rfl, h0⟩⟩
  · rw [if_neg h0]; exact h.1
theorem own_mono {w : World} {B R : Nat} {e : TypeId} {k : Nat} {v : Value} {c : Nat} {xs : List Value} (h : w.ownsRow B e k v c xs) (hR : R ≤ B) : w.ownsRow R e k v c xs := by
  refine ⟨h.1, ?_⟩
  rcases h.2 with h2 | ⟨g, cap, cur, h1, h2, h3⟩
  · exact .inl h2
  · exact .inr ⟨g, cap, cur, h1, by omega, h3⟩
theorem OwnG.post {w : World} {R G : Nat} {v' : Value} {n : Nat} {l : List (Nat → Nat)} {y : Nat → Nat} {A : Array Value} (hR : R ≤ G) (hA : A.size = 6) (hX : Box w G A 24)
    (hown : w.ownsRow (if l.length = 0 then G + 1 else R) 24 6 v' (l.length + 1) (flat n l ++ gcl n y)) : OwnG w R G v' n (l ++ [y]) := by
  have e : flat n (l ++ [y]) = flat n l ++ gcl n y := by rw [flat_append]; simp [flat]
  refine ⟨?_, ?_, ?_⟩
  · rw [e, List.length_append]
    exact own_mono hown (by split <;> omega)
  · intro h; simp at h
  · intro hg
    rcases hown.2 with ⟨h, _⟩ | ⟨g, cap, cur, rfl, h2, h3, h4, _, h6, _⟩
    · rw [h] at hg; simp [Value.ownBlock] at hg
    · simp [Value.ownBlock] at hg
      subst hg
      by_cases h0 : l.length = 0
      · rw [if_pos h0] at h2; omega
      · have hX' : w.heap[g]? = _ := hX
        rw [h3] at hX'
        injection hX' with hX'
        injection hX' with hX'
        rw [hX'] at h6
        omega
theorem OwnG.alloc {w : World} {R G : Nat} {v : Value} {n : Nat} {l : List (Nat → Nat)} (h : OwnG w R G v n l) (o : Obj) : OwnG (w.alloc o) R G v n l := ⟨h.1.alloc o, h.2⟩
theorem grown_set (w : World) (p : Addr) (v : Value) : w.grownBy (w.setCell p v) (some p.block) :=
  ⟨rfl, rfl, rfl, by simp [World.setCell], fun k hk hne => Below.heap_setCell w p v k (fun e => hne (by rw [e]))⟩
theorem OwnG.set {w : World} {R G : Nat} {v : Value} {n : Nat} {l : List (Nat → Nat)} (h : OwnG w R G v n l) (i : Nat) (x : Value) : OwnG (w.setCell ⟨G, i, none⟩ x) R G v n l :=
  ⟨h.1.kept (grown_set w ⟨G, i, none⟩ x) (.inr h.2.2), h.2⟩
theorem Box.cells {w : World} {b : Nat} {A : Array Value} {t : TypeId} (h : Box w b A t) : ∀ j u, A.toList[j]? = some u → w.cell? ((⟨b, 0, none⟩ : Addr).add j) = some u := by
  intro j u hj
  have e : (⟨b, 0, none⟩ : Addr).add j = ⟨b, j, none⟩ := by unfold Addr.add; split <;> simp_all
  rw [e, h.cell j, ← Array.getElem?_toList]
  exact hj
/-- What the list of all graphs is: a row of the call's own. -/
def AllOk (n B : Nat) (w : World) (e : Ending) (w' : World) : Prop := ∃ v, e = .returned (.tuple #[v, .int .i64 0]) ∧ Below B w w' ∧ w'.ownsRow B 24 6 v (allG n n).length (flat n (allG n n))
theorem gcl_one (n : Nat) (y : Nat → Nat) : ∀ u ∈ gcl n y, u.oneCell' = true := by
  intro u hu
  simp only [gcl, List.mem_cons, List.mem_nil_iff, or_false] at hu
  rcases hu with rfl | rfl | rfl | rfl | rfl | rfl <;> rfl

theorem box_upd {w : World} {G n : Nat} {a : Nat → Nat} {p c : Nat} (hp : p < 5) (m : Nat) (h : Box w G #[.int .i64 (n : Int), .int .i64 ((upd a p c) 0 : Int), .int .i64 ((upd a p c) 1 : Int), .int .i64 ((upd a p c) 2 : Int), .int .i64 ((upd a p c) 3 : Int), .int .i64 ((upd a p c) 4 : Int)] 24) : Box (w.setCell ⟨G, 1 + p, none⟩ (.int .i64 (m : Int))) G #[.int .i64 (n : Int), .int .i64 ((upd a p m) 0 : Int), .int .i64 ((upd a p m) 1 : Int), .int .i64 ((upd a p m) 2 : Int), .int .i64 ((upd a p m) 3 : Int), .int .i64 ((upd a p m) 4 : Int)] 24 := by
  have h2 : Box w G (gcells n (upd a p c)) 24 := h
  have h3 := h2.set (1 + p) (.int .i64 (m : Int))
  rw [gcells_set hp] at h3
  have e : (fun i => if i = p then m else upd a p c i) = upd a p m := upd_upd a p c m
  rw [e] at h3
  exact h3
theorem box_row {w : World} {G n : Nat} {a : Nat → Nat} {p : Nat} (hp : p < 5) (h : Box w G #[.int .i64 (n : Int), .int .i64 (a 0 : Int), .int .i64 (a 1 : Int), .int .i64 (a 2 : Int), .int .i64 (a 3 : Int), .int .i64 (a 4 : Int)] 24) : w.cell? ⟨G, 1 + p, none⟩ = some (.int .i64 (a p : Int)) :=
  (h.cell (1 + p)).trans (gcells_get (g := a) hp)

set_option maxRecDepth 100000 in
set_option maxHeartbeats 4000000 in
theorem all_ok (n : Nat) (h1 : 1 ≤ n) (h4 : n ≤ 4) (w : World) :
    Calls Tryd.prog 31 #[.int .i64 (n : Int)] w (AllOk n w.heap.size w) := by
  obtain ⟨i0, hi, hz0, hz1, hz2⟩ := info_parts infoG
  have h32 : 2 ^ n ≤ 16 := Nat.pow_le_pow_right (n := 2) (by omega) h4
  have hp0 : 0 < 2 ^ n := Nat.pow_pos (by omega)
  have ew : wrap64 (2 ^ n) = ((2 ^ n : Nat) : Int) := by
    have e : ((2 : Int) ^ n) = ((2 ^ n : Nat) : Int) := by simp
    rw [e, IntWalk.wrap64_in _ (by omega)]
  obtain ⟨q, hq⟩ : ∃ q, 2 ^ n = q := ⟨_, rfl⟩
  rw [hq] at ew h32 hp0
  obtain ⟨M, hM, hM12⟩ : ∃ M : Nat, ((n : Int) * ((n : Int) - 1) = (M : Int)) ∧ M ≤ 12 := by
    obtain rfl | rfl | rfl | rfl : n = 1 ∨ n = 2 ∨ n = 3 ∨ n = 4 := by omega
    · exact ⟨0, by rfl, by omega⟩
    · exact ⟨2, by rfl, by omega⟩
    · exact ⟨6, by rfl, by omega⟩
    · exact ⟨12, by rfl, by omega⟩
  have h2M : (2 : Nat) ^ M ≤ 4096 := Nat.pow_le_pow_right (n := 2) (by omega) hM12
  have hl3 : wrap64 (2 ^ M) ≤ 4096 := by
    have e : ((2 : Int) ^ M) = ((2 ^ M : Nat) : Int) := by simp
    rw [e]
    generalize (2 : Nat) ^ M = z at h2M
    rw [IntWalk.wrap64_in _ (by omega)]
    omega
  have Hq := Lib.hid hq
  clear hq h2M
  go_enter Tryd.func31, Tryd.ntmps31
  go_wp2_with fail
  obtain ⟨W0, hW0⟩ : ∃ W, w.alloc (.cells #[.int .i64 (n : Int), .int .i64 0, .int .i64 0, .int .i64 0, .int .i64 0, .int .i64 0] 24) = W := ⟨_, rfl⟩
  rw [hW0]
  have B0 : Below w.heap.size w W0 := hW0 ▸ (Below.refl _ _).alloc (Nat.le_refl _) _
  have O0 : W0.ownsRow w.heap.size 24 6 (.slice (some ⟨w.heap.size, 0, none⟩) 1 1) (allG n 0).length (flat n (allG n 0)) :=
    ⟨by rw [flat_length], .inr ⟨w.heap.size, 1, _, rfl, Nat.le_refl _, hW0 ▸ Box.new w _ _, Nat.le_refl _, by decide, by rfl, by rfl⟩⟩
  clear hW0
  obtain ⟨H, hH⟩ : ∃ H, w.heap.size = H := ⟨_, rfl⟩
  rw [hH] at B0 O0 ⊢
  have HH := Lib.hid hH
  clear hH hM hl3 hM12
  go_loopw [4, 26] (fun v j wr => ∃ p : Nat, p ≤ n ∧ j = .int .i64 p ∧ Below H w wr ∧ wr.ownsRow H 24 6 v (allG n p).length (flat n (allG n p))) (fun _ j _ => n - (intOf j).toNat)
  case atStart => exact ⟨0, by omega, rfl, B0, O0⟩
  case round =>
    obtain ⟨p, hp, rfl, hB, hO⟩ := hrel
    clear B0 O0
    by_cases hlt : p < n
    · obtain ⟨l, hl⟩ : ∃ l, allG n p = l := ⟨_, rfl⟩
      have hll := allG_le h4 hp
      have hl1 := allG_pos (show n ≤ 5 by omega) hp
      rw [hl] at hO hll hl1
      have Hl := Lib.hid hl
      clear hl
      rcases hO.2 with ⟨_, h0⟩ | ⟨L, cap, cur, rfl, hHL, hLc, hcl, hcm, hcs, htk⟩
      · omega
      have hLl : L < wr.heap.size := (Array.getElem?_eq_some_iff.1 hLc).1
      have HL : Hid (∀ V i k, Below wr.heap.size wr V → (h : i < l.length) → k < 6 → V.cell? ⟨L, i * 6 + k, none⟩ = (gcl n l[i])[k]?) := Lib.hid (by
        intro V i k hV h hk
        rw [hV.cell (p := ⟨L, i * 6 + k, none⟩) hLl, Joins.cell_of_block hLc, ← flat_get n l i k h hk, ← htk, List.getElem?_take, if_pos (by omega), Array.getElem?_toList])
      have HO := Lib.hid hO
      have HB := Lib.hid hB
      unfold maxLen at hcm
      clear hO hB hcs htk hLc
      go_wp2_with fail
      obtain ⟨W, hW⟩ : ∃ W, wr = W := ⟨_, rfl⟩
      rw [hW] at HO HB HL hLl ⊢
      clear hW
      obtain ⟨R, hR⟩ : ∃ R, W.heap.size = R := ⟨_, rfl⟩
      have hRR := Nat.le_of_eq hR
      rw [hR] at HL hLl
      have HR := Lib.hid hR
      clear hR
      go_loopw [6, 31] (fun v j wr => ∃ k : Nat, k ≤ l.length ∧ j = .int .i64 k ∧ Below R W wr ∧ (wr.ownsRow R 24 6 v (lay n p l k).length (flat n (lay n p l k)) ∧ ((lay n p l k).length = 0 → v = .slice none 0 0))) (fun _ j _ => l.length - (intOf j).toNat)
      case atStart => exact ⟨0, by omega, rfl, Below.refl _ _, World.ownsRow_nil _ _ _ _, fun _ => rfl⟩
      case round =>
        obtain ⟨k, hk, rfl, hB, hO⟩ := hrel
        by_cases hkl : k < l.length
        · have HO2 := Lib.hid hO
          have c0 := HL.out wr k 0 hB hkl (by omega)
          have c1 := HL.out wr k 1 hB hkl (by omega)
          have c2 := HL.out wr k 2 hB hkl (by omega)
          have c3 := HL.out wr k 3 hB hkl (by omega)
          have c4 := HL.out wr k 4 hB hkl (by omega)
          have c5 := HL.out wr k 5 hB hkl (by omega)
          have HB2 := Lib.hid hB
          have hls := lay_succ n p l hkl
          obtain ⟨a, ha⟩ : ∃ a, l[k] = a := ⟨_, rfl⟩
          rw [ha] at c0 c1 c2 c3 c4 c5 hls
          simp [gcl] at c0 c1 c2 c3 c4 c5
          have Hls := Lib.hid hls
          clear hls ha hO hB
          go_wp2_with fail
          obtain ⟨V, hV⟩ : ∃ V, wr.alloc (.cells #[.int .i64 (n : Int), .int .i64 (a 0 : Int), .int .i64 (a 1 : Int), .int .i64 (a 2 : Int), .int .i64 (a 3 : Int), .int .i64 (a 4 : Int)] 24) = V := ⟨_, rfl⟩
          obtain ⟨G, hG⟩ : ∃ G, wr.heap.size = G := ⟨_, rfl⟩
          have hRG : R ≤ G := by have := HB2.out.size; have := HR.out; omega
          have XG : Box V G #[.int .i64 (n : Int), .int .i64 ((upd a p (a p)) 0 : Int), .int .i64 ((upd a p (a p)) 1 : Int), .int .i64 ((upd a p (a p)) 2 : Int), .int .i64 ((upd a p (a p)) 3 : Int), .int .i64 ((upd a p (a p)) 4 : Int)] 24 := by
            have e : upd a p (a p) = a := by funext i; unfold upd; split <;> simp_all
            rw [e, ← hG]
            exact hV ▸ Box.new wr _ _
          have OG : OwnG V R G u6 n (lay n p l k ++ exts p a 0) := by
            show OwnG V R G u6 n (lay n p l k ++ [])
            rw [List.append_nil]
            refine hV ▸ OwnG.alloc ⟨HO2.out.1, HO2.out.2, fun h => ?_⟩ _
            have := (HO2.out.1.lt _ h).2
            omega
          have BV : Below R W V := hV ▸ HB2.out.alloc (by rw [hG]; exact hRG) _
          rw [hV, hG, ew]
          clear hV hG ew c0 c1 c2 c3 c4 c5 HO2 HB2
          go_loopw [6, 37] (fun v j ws => ∃ (m c : Nat), m ≤ q ∧ j = .int .i64 m ∧ Below R W ws ∧ Box ws G #[.int .i64 (n : Int), .int .i64 ((upd a p c) 0 : Int), .int .i64 ((upd a p c) 1 : Int), .int .i64 ((upd a p c) 2 : Int), .int .i64 ((upd a p c) 3 : Int), .int .i64 ((upd a p c) 4 : Int)] 24 ∧ OwnG ws R G v n (lay n p l k ++ exts p a m)) (fun _ j _ => q - (intOf j).toNat)
          case atStart => exact ⟨0, a p, by omega, rfl, BV, XG, OG⟩
          case round =>
            clear BV XG OG
            obtain ⟨m, c, hm, rfl, hB, hX, hO⟩ := hrel
            have HB3 := Lib.hid hB
            have HX3 := Lib.hid hX
            have HO3 := Lib.hid hO
            clear hB hX hO
            by_cases hml : m < q
            · by_cases hbit : m / 2 ^ p % 2 = 1
              · have hb2 : (bits .and .i64 ((m : Int) / (2 : Int) ^ p) 1 == 1) = true := by
                  have := bit_is m (2 ^ p) (by omega) hbit
                  rwa [Int.natCast_pow] at this
                have he := exts_yes (a := a) hbit
                have hcr := box_row (p := p) (by omega) HX3.out
                have hfr : wr.frozen? ⟨G, 1 + p, none⟩ = false := HX3.out.open_ (1 + p)
                have hlG := HX3.out.lt
                have HX4 := Lib.hid (box_upd (by omega) m HX3.out)
                have HO4 := Lib.hid (HO3.out.set (1 + p) (.int .i64 (m : Int)))
                have HB4 := Lib.hid (HB3.out.setCell (p := ⟨G, 1 + p, none⟩) hRG (.int .i64 (m : Int)))
                have He := Lib.hid he
                clear hbit he HX3 HO3 HB3
                go_upto_region 18 with fail
                clear hcr hfr
                obtain ⟨X, hX⟩ : ∃ X, wr.setCell ⟨G, 1 + p, none⟩ (.int .i64 (m : Int)) = X := ⟨_, rfl⟩
                rw [hX] at HX4 HO4 HB4 ⊢
                have hlX := HX4.out.lt
                clear hX hlG
                have hob := HO4.out.pre
                obtain ⟨C, hC⟩ : ∃ C, (lay n p l k ++ exts p a m).length = C := ⟨_, rfl⟩
                have hCb : C ≤ 65536 + 32 := by
                  have h1 := lay_le (n := n) (p := p) (by omega) hlt l k
                  have h2 := exts_le p a m
                  rw [← hC, List.length_append]
                  omega
                rw [hC] at hob
                obtain ⟨BS, hBS⟩ : ∃ BS, (if C = 0 then G + 1 else R) = BS := ⟨_, rfl⟩
                have hBX : BS ≤ X.heap.size := by rw [← hBS]; split <;> omega
                rw [hBS] at hob
                have Hob := Lib.hid hob
                have HC := Lib.hid hC
                have HBS := Lib.hid hBS
                clear hob hC hBS
                obtain ⟨y, hy⟩ : ∃ y, upd a p m = y := ⟨_, rfl⟩
                rw [hy] at HX4 He
                have HY := Lib.hid hy
                clear hy
                obtain ⟨⟨y0, y1, y2, y3, y4, y5⟩, _⟩ := HX4.out.six
                go_wp2_with (at_builtin; refine wpList_append_own _ rfl _ _ 52 rfl BS 24 i0 (.agg #[.int .i64 0, .int .i64 0, .int .i64 0, .int .i64 0, .int .i64 0, .int .i64 0]) 6 48 Tryd.underlying52 hi hz0 hz1 hz2 rfl (by decide) _ _ _ rfl (Hob.out.alloc _) ⟨X.heap.size, 0, none⟩ 1 1 (gcl n y) rfl rfl ?c1 ?c2 ?c3 ?c4 ?c5 ?_)
                case c1 => exact Box.cells (Box.new X _ _)
                case c2 => exact gcl_one n y
                case c3 => unfold maxLen; omega
                case c4 => omega
                case c5 => simp; omega
                intro v' w1 hown' hgrow hnil
                clear y0 y1 y2 y3 y4 y5
                have hne := HO4.out.2.2
                have hX6 : Box w1 G #[.int .i64 (n : Int), .int .i64 (y 0 : Int), .int .i64 (y 1 : Int), .int .i64 (y 2 : Int), .int .i64 (y 3 : Int), .int .i64 (y 4 : Int)] 24 :=
                  (hgrow.block G (by simp; omega) (fun e => hne e.symm)).trans (HX4.out.alloc _)
                have hO6 : OwnG w1 R G v' n (lay n p l k ++ exts p a (m + 1)) := by
                  rw [He.out, ← List.append_assoc]
                  rw [← HBS.out, ← HC.out] at hown'
                  exact OwnG.post (y := y) hRG (by rfl) hX6 hown'
                have HX6 := Lib.hid (show Box w1 G #[.int .i64 (n : Int), .int .i64 ((upd a p m) 0 : Int), .int .i64 ((upd a p m) 1 : Int), .int .i64 ((upd a p m) 2 : Int), .int .i64 ((upd a p m) 3 : Int), .int .i64 ((upd a p m) 4 : Int)] 24 from by rw [HY.out]; exact hX6)
                have HO6 := Lib.hid hO6
                have HB6 := Lib.hid ((HB4.out.alloc (by have := HB4.out.size; have := HR.out; omega) _).grown hgrow (by have := HB4.out.size; have := HR.out; simp; omega) (fun k hk => (HO4.out.1.lt k hk).1))
                clear hown' hgrow hnil hne hX6 hO6 HB4 HO4 HX4 Hob HC HBS
                go_wp2_with fail
                go_roundw
                case rel => first | exact ⟨m + 1, m, by omega, by go_num, HB6.out, HX6.out, HO6.out⟩ | ((repeat apply Exists.intro); exact ⟨⟨m + 1, m, by omega, by go_num, HB6.out, HX6.out, HO6.out⟩, rfl⟩)
                case measure => simp [intOf]; omega
              · have hb2 : (bits .and .i64 ((m : Int) / (2 : Int) ^ p) 1 == 1) = false := by
                  have := bit_not m (2 ^ p) (by omega) hbit
                  rwa [Int.natCast_pow] at this
                have he := exts_no (a := a) hbit
                rw [← he] at HO3
                have HO4 := Lib.hid HO3.out
                clear HO3 he hbit
                go_wp2_with fail
                go_roundw
                case rel => exact ⟨m + 1, c, by omega, by go_num, HB3.out, HX3.out, HO4.out⟩
                case measure => simp [intOf]; omega
            · have hmq : m = q := by omega
              have HO4 : Hid (wr.ownsRow R 24 6 u6 (lay n p l (k + 1)).length (flat n (lay n p l (k + 1))) ∧ ((lay n p l (k + 1)).length = 0 → u6 = .slice none 0 0)) := Lib.hid (by
                have h := HO3.out
                rw [hmq, ← Hq.out, ← Hls.out] at h
                exact ⟨h.1, h.2.1⟩)
              clear HO3 HX3
              go_wp2_with fail
              go_roundw
              case rel => exact ⟨k + 1, by omega, by go_num, HB3.out, HO4.out⟩
              case measure => simp [intOf]; omega
        · have hkl2 : k = l.length := by omega
          have HO3 : Hid (wr.ownsRow H 24 6 u6 (allG n (p + 1)).length (flat n (allG n (p + 1)))) := Lib.hid (by
            have e : lay n p l k = allG n (p + 1) := by rw [hkl2, ← Hl.out]; exact lay_all n p
            rw [← e]
            exact own_mono hO.1 (by have := HB.out.size; have := HR.out; have := HH.out; omega))
          have HB3 := Lib.hid (HB.out.trans (Joins.below_le hB (by have := HB.out.size; have := HR.out; have := HH.out; omega)))
          clear hO hB
          go_wp2_with fail
          go_roundw
          case rel => exact ⟨p + 1, by omega, by go_num, HB3.out, HO3.out⟩
          case measure => simp [intOf]; omega
    · have hpn : p = n := by omega
      subst hpn
      have HO := Lib.hid hO
      have HB := Lib.hid hB
      clear hO hB
      go_wp2_with fail
      go_ret2
      exact ⟨_, rfl, by rw [HH.out]; exact HB.out, by rw [HH.out]; exact HO.out⟩
end Go.Proofs.YtacnhklhimogkaaDoor
