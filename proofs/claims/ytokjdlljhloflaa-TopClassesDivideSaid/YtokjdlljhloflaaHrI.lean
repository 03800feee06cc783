/- Lookups and stores in a map with pairs of integers as keys, whose entries are known. -/
import Derived.Test.YtokjdlljhloflaaHrB
import Derived.Test.YtokjdlljhloflaaHrA
import Derived.Test.YtokjdlljhloflaaHrC
import Derived.Test.YtokjdlljhloflaaHrD
import Derived.Test.YtokjdlljhloflaaHrE
import Derived.Test.YtokjdlljhloflaaHrF
import Derived.Test.YtokjdlljhloflaaHrG
import Derived.MapKept
import Derived.Deep.RegionWith
import Derived.Test.YtokjdlljhloflaaHrM
import Derived.WalkKit
import Derived.WalkSpells
import Derived.WalkLawsBesides
import Derived.Handy
import Derived.Deep.QuietTactic
import Derived.BigQuiet
import Derived.Outline
import Derived.Laws.BitsAllLaws
import Derived.IntWalk
import Derived.Lib.SmallJoins
import Derived.Lib.Hide
namespace Go.Proofs.Ytokjdlljhloflaa.Gra
open Go.RowKit




open Go.MapKept

theorem lk_none (W : World) (m clock : Nat) (es : Array MapEntry) (key : Value) (hb : W.heap[m]? = some (.map es clock)) (hc : (Instr.checkKey es.isEmpty 10000 50 key).run Try.prog W = .ok () W)
    (hf : (Instr.findKey 50 key es.toList).run Try.prog W = .ok none W) :
    (Instr.lookup 60 (.map (some m)) key true).run Try.prog W = .ok (.tuple #[.int .i64 0, .bool false]) W := by
  have hu : Try.prog.underlying 60 = some (.map 50 3) := by kernel_rfl
  have hz : (zeroValue 3).run Try.prog W = .ok (.int .i64 0) W := by kernel_rfl
  unfold Instr.lookup
  simp [Sem.run_bind, run_underlying hu, MapKept.run_getObj_map hb, hc, hf, hz, Result.andThen]

theorem lk_some (W : World) (m clock i : Nat) (es : Array MapEntry) (key v : Value) (hb : W.heap[m]? = some (.map es clock)) (hc : (Instr.checkKey es.isEmpty 10000 50 key).run Try.prog W = .ok () W)
    (hf : (Instr.findKey 50 key es.toList).run Try.prog W = .ok (some (i, v)) W) :
    (Instr.lookup 60 (.map (some m)) key false).run Try.prog W = .ok v W := by
  have hu : Try.prog.underlying 60 = some (.map 50 3) := by kernel_rfl
  unfold Instr.lookup
  simp [Sem.run_bind, run_underlying hu, MapKept.run_getObj_map hb, hc, hf, Result.andThen]

theorem up_new (W : World) (m clock : Nat) (es : Array MapEntry) (key v : Value) (hb : W.heap[m]? = some (.map es clock)) (hc : (Instr.checkKey false 10000 50 key).run Try.prog W = .ok () W)
    (hf : (Instr.findKey 50 key es.toList).run Try.prog W = .ok none W) :
    (Instr.mapUpdate 60 (.map (some m)) key v).run Try.prog W = .ok () { W with heap := W.heap.setIfInBounds m (.map (es.push { key, val := v, born := clock }) (clock + 1)) } := by
  have hu : Try.prog.underlying 60 = some (.map 50 3) := by kernel_rfl
  unfold Instr.mapUpdate
  simp [Sem.run_bind, run_underlying hu, MapKept.run_getObj_map hb, hc, hf, MapKept.run_setObj_map _ hb, Result.andThen]

theorem len_at (W : World) (m clock : Nat) (es : Array MapEntry) (hb : W.heap[m]? = some (.map es clock)) :
    (Builtin.len_ #[60] 3 #[.map (some m)]).run Try.prog W = .ok (.int .i64 (es.size : Int)) W :=
  run_len_map W 60 3 m es clock (by kernel_rfl) hb

theorem c1 (e : Bool) (x y : Int) (W : World) : (Instr.checkKey e 10000 50 (.agg #[.int .i64 x, .int .i64 y])).run Try.prog W = .ok () W := by kernel_rfl
theorem f00 (W : World) (x y : Int) : (Instr.findKey 50 (.agg #[.int .i64 x, .int .i64 y]) []).run Try.prog W = .ok none W := by kernel_rfl
theorem fn0 (W : World) : (Instr.findKey 50 (.agg #[.int .i64 0, .int .i64 0]) []).run Try.prog W = .ok none W := by kernel_rfl
theorem fs0 (W : World) : (Instr.findKey 50 (.agg #[.int .i64 0, .int .i64 0]) [{ key := .agg #[.int .i64 0, .int .i64 0], val := .int .i64 0, born := 0 }]).run Try.prog W = .ok (some (0, .int .i64 0)) W := by kernel_rfl
theorem fn1 (W : World) : (Instr.findKey 50 (.agg #[.int .i64 0, .int .i64 1]) [{ key := .agg #[.int .i64 0, .int .i64 0], val := .int .i64 0, born := 0 }]).run Try.prog W = .ok none W := by kernel_rfl
theorem fs1 (W : World) : (Instr.findKey 50 (.agg #[.int .i64 0, .int .i64 1]) [{ key := .agg #[.int .i64 0, .int .i64 0], val := .int .i64 0, born := 0 }, { key := .agg #[.int .i64 0, .int .i64 1], val := .int .i64 1, born := 1 }]).run Try.prog W = .ok (some (1, .int .i64 1)) W := by kernel_rfl
theorem fn2 (W : World) : (Instr.findKey 50 (.agg #[.int .i64 1, .int .i64 1]) [{ key := .agg #[.int .i64 0, .int .i64 0], val := .int .i64 0, born := 0 }, { key := .agg #[.int .i64 0, .int .i64 1], val := .int .i64 1, born := 1 }]).run Try.prog W = .ok none W := by kernel_rfl
theorem fs2 (W : World) : (Instr.findKey 50 (.agg #[.int .i64 1, .int .i64 1]) [{ key := .agg #[.int .i64 0, .int .i64 0], val := .int .i64 0, born := 0 }, { key := .agg #[.int .i64 0, .int .i64 1], val := .int .i64 1, born := 1 }, { key := .agg #[.int .i64 1, .int .i64 1], val := .int .i64 2, born := 2 }]).run Try.prog W = .ok (some (2, .int .i64 2)) W := by kernel_rfl

/-- What labels holds between two rounds: its map, its slice, and nothing else turned. -/
structure St (w W : World) (es : Array MapEntry) (clock : Nat) (sl : Array Value) : Prop where
  below : Below w.heap.size w W
  size : w.heap.size + 2 ≤ W.heap.size
  map : W.heap[w.heap.size]? = some (.map es clock)
  row : W.heap[w.heap.size + 1]? = some (.cells sl 3 (0, 0))

theorem St.start (w : World) : St w ((w.alloc (.map #[] 0)).alloc (.cells #[.int .i64 0, .int .i64 0, .int .i64 0] 3)) #[] 0 #[.int .i64 0, .int .i64 0, .int .i64 0] :=
  ⟨((Below.refl _ _).alloc (Nat.le_refl _) _).alloc (by simp) _, by simp, by show ((w.heap.push _).push _)[w.heap.size]? = _; simp [Array.getElem?_push], by show ((w.heap.push _).push _)[w.heap.size + 1]? = _; rw [Array.getElem?_push, if_pos (by simp)]⟩

theorem St.call {w W V : World} {es : Array MapEntry} {clock : Nat} {sl : Array Value} (s : St w W es clock sl) (h : Below W.heap.size W V) : St w V es clock sl :=
  ⟨s.below.trans (Joins.below_le h (by have := s.size; omega)), Nat.le_trans s.size h.size, (h.block _ (by have := s.size; omega)).trans s.map, (h.block _ (by have := s.size; omega)).trans s.row⟩

theorem St.alloc {w W : World} {es : Array MapEntry} {clock : Nat} {sl : Array Value} (s : St w W es clock sl) (o : Obj) : St w (W.alloc o) es clock sl :=
  s.call ((Below.refl _ _).alloc (Nat.le_refl _) o)

theorem St.store {w W : World} {es : Array MapEntry} {clock : Nat} {sl : Array Value} (s : St w W es clock sl) (i : Nat) (v : Value) : St w (W.setCell ⟨w.heap.size + 1, i, none⟩ v) es clock (sl.setIfInBounds i v) :=
  ⟨s.below.setCell (by simp) v, by simpa using s.size, (Below.heap_setCell W ⟨w.heap.size + 1, i, none⟩ v _ (by simp)).trans s.map, Joins.block_setCell s.row v⟩

theorem St.up {w W : World} {es : Array MapEntry} {clock : Nat} {sl : Array Value} (s : St w W es clock sl) (x y : Int) (v : Value)
    (hf : ∀ W, (Instr.findKey 50 (.agg #[.int .i64 x, .int .i64 y]) es.toList).run Try.prog W = .ok none W) :
    ∃ V, (Instr.mapUpdate 60 (.map (some w.heap.size)) (.agg #[.int .i64 x, .int .i64 y]) v).run Try.prog W = .ok () V ∧
      St w V (es.push { key := .agg #[.int .i64 x, .int .i64 y], val := v, born := clock }) (clock + 1) sl ∧ ∀ k, k ≠ w.heap.size → V.heap[k]? = W.heap[k]? := by
  have hlt : w.heap.size < W.heap.size := by have := s.size; omega
  refine ⟨_, up_new W w.heap.size clock es _ v s.map (c1 _ x y W) (hf W), ⟨?_, ?_, ?_, ?_⟩, ?_⟩
  · exact ⟨s.below.os, s.below.tape, s.below.output, by simpa using s.below.size, fun k hk => by
      show (W.heap.setIfInBounds w.heap.size _)[k]? = _
      rw [Array.getElem?_setIfInBounds_ne (by omega)]
      exact s.below.block k hk⟩
  · simpa using s.size
  · show (W.heap.setIfInBounds w.heap.size _)[w.heap.size]? = _
    rw [Array.getElem?_setIfInBounds_self_of_lt hlt]
  · show (W.heap.setIfInBounds w.heap.size _)[w.heap.size + 1]? = _
    rw [Array.getElem?_setIfInBounds_ne (by omega)]
    exact s.row
  · intro k hk
    show (W.heap.setIfInBounds w.heap.size _)[k]? = _
    rw [Array.getElem?_setIfInBounds_ne (by omega)]
end Go.Proofs.Ytokjdlljhloflaa.Gra
