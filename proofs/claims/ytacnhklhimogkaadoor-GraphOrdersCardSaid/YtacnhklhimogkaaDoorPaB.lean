/- graph.Parse for whatever text. -/
import Derived.Test.YtacnhklhimogkaaDoorPaA
import Derived.Test.YtacnhklhimogkaaDoorFoB
import Derived.Test.YtacnhklhimogkaaDoorRb
import Derived.Lib.SplitLaws
import Derived.Deep.DeepCutAuto
import Derived.Test.YtacnhklhimogkaaDoorGcB
import Derived.Test.YtacnhklhimogkaaDoorGrN
import Derived.Test.YtacnhklhimogkaaDoorPmA
import Derived.Test.YtacnhklhimogkaaDoorPmM
import Derived.Test.YtacnhklhimogkaaDoorPmD
import Derived.Test.YtacnhklhimogkaaDoorGrR
import Derived.Test.YtacnhklhimogkaaDoorTb
import Derived.LoopTactic
import Derived.Deep.RegionWith
import Derived.WalkKit
import Derived.WalkSpells
import Derived.WalkLawsBesides
import Derived.Handy
import Derived.Deep.QuietTactic
import Derived.BigQuiet
import Derived.Outline
import Derived.Laws.BitsAllLaws
import Derived.IntWalk
import Derived.Lib.SmallJoins
import Derived.Lib.Hide
namespace Go.Proofs.YtacnhklhimogkaaDoor
set_option linter.unusedVariables false
set_option linter.unusedSimpArgs false
open Go.RowKit

theorem rowsB_any (n : Nat) (hn : 1 ≤ n ∧ n ≤ 5) (K : Nat) (lb : Array Value) (f : Nat → Int) (w : World)
    (hK : ∀ args w, (callFunc K args).run Tryd.prog w = .ok (.enter K args) w)
    (hf : ∀ (p : Nat) W, p < n → Below w.heap.size w W → Calls Tryd.prog K (#[.int .i64 (p : Int)] ++ lb) W fun e W' => e = .returned (.int .i64 (f p)) ∧ Below W.heap.size W W') :
    Calls Tryd.prog 38 #[.int .i64 (n : Int), .func (.func K) #[] lb] w
      fun e w' => e = .returned (.agg #[.int .i64 (n : Int), .int .i64 (pad n f 0), .int .i64 (pad n f 1), .int .i64 (pad n f 2), .int .i64 (pad n f 3), .int .i64 (pad n f 4)]) ∧ Below w.heap.size w w' := by
  obtain rfl | rfl | rfl | rfl | rfl : n = 1 ∨ n = 2 ∨ n = 3 ∨ n = 4 ∨ n = 5 := by omega
  · exact rowsB1 K lb f w hK hf
  · exact rowsB2 K lb f w hK hf
  · exact rowsB3 K lb f w hK hf
  · exact rowsB4 K lb f w hK hf
  · exact rowsB5 K lb f w hK hf

/-- The parts of a text between blanks. -/
def parts (s : ByteArray) : List ByteArray := Lib.splitB { data := #[32] } 0 (Lib.countB s { data := #[32] }) s
def npart (s : ByteArray) : Nat := Lib.countB s { data := #[32] } + 1
theorem parts_len (s : ByteArray) : (parts s).length = npart s := Lib.splitB_all { data := #[32] } (by decide) 0 _ s rfl
/-- The set that a part has. -/
def prt (s : ByteArray) (p : Nat) : Nat := orb ((parts s).getD p ⟨#[]⟩).data.toList

theorem prt_lt (s : ByteArray) (p : Nat) : prt s p < 32 := orb_lt _
theorem prt_off (s : ByteArray) {p : Nat} (h : npart s ≤ p) : prt s p = 0 := by
  unfold prt
  rw [List.getD_eq_getElem?_getD, List.getElem?_eq_none (by rw [parts_len]; exact h)]
  rfl
theorem rng_prt (s : ByteArray) : Rng (fun p => (prt s p : Int)) := by
  intro p _
  have := prt_lt s p
  show _ ≤ ((prt s p : Nat) : Int) ∧ ((prt s p : Nat) : Int) ≤ _
  omega

/-- Whether a text is that of a graph. -/
def IsText (s : ByteArray) : Prop := npart s ≤ 5 ∧ WF (npart s) (prt s) ∧ gtx (npart s) (prt s) = s

set_option maxRecDepth 100000 in
set_option maxHeartbeats 4000000 in
theorem parse_many (s : ByteArray) (m : Int) (w : World) (hw : 0 < w.heap.size) (hm : w.cell? ⟨0, 0, none⟩ = some (.int .i64 m)) (hs : s.size < 4294967281) (h5 : 5 < npart s) :
    Calls Tryd.prog 29 #[.string s] w fun e w' => e = .returned (.tuple #[zg, .int .i64 4]) ∧ Below w.heap.size w w' := by
  have HS : Hid (∀ W, W.cell? ⟨0, 0, none⟩ = some (.int .i64 m) → Calls Tryd.prog 58 #[.string s, .string { data := #[32] }] W fun e w' => e = .returned (.slice (some ⟨W.heap.size, 0, none⟩) (npart s) (npart s)) ∧ w' = W.alloc (.cells ((parts s).map Value.string).toArray 9)) := Lib.hid (fun W hW => Tryd.strings_Split s { data := #[32] } m W hs hW (by decide))
  have hn5 : ¬ (npart s : Int) ≤ 5 := by omega
  have hbig : npart s ≤ 4294967296 := by
    have := Lib.countB_le { data := #[32] } (by decide) _ s (Nat.le_refl _)
    unfold npart; omega
  have hbig2 : (npart s : Int) ≤ 4294967296 := by omega
  obtain ⟨N, hN⟩ : ∃ N, npart s = N := ⟨_, rfl⟩
  rw [hN] at HS hn5 hbig2 h5
  clear hbig hN hs
  go_enter Tryd.func29, Tryd.ntmps29
  go_wp2_with fail
  have B0 : Below w.heap.size w (w.alloc (.cells #[.int .i64 0, .int .i64 0, .int .i64 0, .int .i64 0, .int .i64 0, .int .i64 0] 24)) := (Below.refl _ _).alloc (Nat.le_refl _) _
  have XZ : Box (w.alloc (.cells #[.int .i64 0, .int .i64 0, .int .i64 0, .int .i64 0, .int .i64 0, .int .i64 0] 24)) w.heap.size #[.int .i64 0, .int .i64 0, .int .i64 0, .int .i64 0, .int .i64 0, .int .i64 0] 24 := Box.new w _ _
  refine (HS.out _ ((B0.cell (p := ⟨0, 0, none⟩) hw).trans hm)).mono ?_
  rintro e w1 ⟨rfl, hw1⟩
  have B1 : Below w.heap.size w w1 := by rw [hw1]; exact B0.alloc (by simp) _
  have X1 : Box w1 w.heap.size #[.int .i64 0, .int .i64 0, .int .i64 0, .int .i64 0, .int .i64 0, .int .i64 0] 24 := by rw [hw1]; exact XZ.alloc _
  clear hw1 XZ B0 HS
  have HX1 := Lib.hid X1
  have hlZ := X1.lt
  have hn6 : (5 : Int) < (N : Int) := by omega
  clear X1 hbig2 hm hw hn5 h5
  go_upto_region 3 with fail
  have X2 := HX1.out.alloc (.cells #[.slice (some ⟨w.heap.size + 1, 0, none⟩) N N] 80)
  obtain ⟨v, hv⟩ : ∃ v, w1.alloc (.cells #[.slice (some ⟨w.heap.size + 1, 0, none⟩) N N] 80) = v := ⟨_, rfl⟩
  have B2 : Below w.heap.size w v := hv ▸ B1.alloc B1.size _
  rw [hv] at X2 ⊢
  clear hv HX1 hn6 hlZ B1
  obtain ⟨⟨z0, z1, z2, z3, z4, z5⟩, zf0, zf1, zf2, zf3, zf4, zf5⟩ := X2.six
  have hlZ := X2.lt
  clear X2
  go_wp2_with fail
  refine bodyPost_ret (v := .tuple #[zg, .int .i64 4]) (by simp [results, Tryd.results29, go_sem, z0, z1, z2, z3, z4, z5]) rfl ⟨rfl, ?_⟩
  repeat' (first | (with_reducible exact B2) | (with_reducible refine Below.setCell ?_ ?_ _) | go_size)
end Go.Proofs.YtacnhklhimogkaaDoor
