/- The state of reduce: rows, leading columns, the map of leading columns. -/
import Derived.Test.YtbefkngeffpokaaDoorMxD
import Derived.WalkKit
import Derived.WalkSpells
import Derived.WalkLawsBesides
import Derived.Handy
import Derived.Deep.QuietTactic
import Derived.BigQuiet
import Derived.Outline
import Derived.Laws.BitsAllLaws
import Derived.IntWalk
import Derived.Lib.SmallJoins
import Derived.Lib.Hide
import Derived.Deep.DeepCutAuto
import Derived.LoopTactic
import Derived.Deep.RegionWith
import Derived.Laws.CopyOwn
import Derived.Maps.OwnOps
import Derived.Maps.OwnSet
import Derived.Laws.OwnMore
import Derived.Maps.AppendAt
import Derived.RangeFuncNested
import Derived.RangeFuncBound
import Derived.RangeFuncCalls
import Derived.RangeFuncLeaves
import Derived.RangeFuncBox
import Derived.RangeFuncFrom
import Derived.Shelf.Abstract
import Derived.Shelf.RegionOpen
import Derived.OwnWalkIn
import Derived.TacticsInMore
import Derived.LoopNIn
import Derived.LoopIn
import Derived.Deep.RegionHeld3
import Derived.RegionTactic
import Derived.ChangeAlike
namespace Go.Proofs.YtbefkngeffpokaaDoor
set_option linter.unusedVariables false
set_option linter.unusedSimpArgs false
open Go.RowKit


theorem lawI : Maps.Keyed Tryd.prog 3 := Maps.int_keyed Tryd.underlying3
theorem key_int {c : Nat} (h : c < 1000) : keyOf Tryd.prog 3 (.int .i64 (c : Int)) = some (.int .i64 (c : Int)) := Maps.keyOf_int_mk Tryd.underlying3 (WalkArith.wf_i64 (by omega))
theorem zero_int (w : World) : (zeroValue 3).run Tryd.prog w = .ok (.int .i64 0) w := by kernel_rfl
theorem keyI {c : Nat} (h : c < 1000) : WideAt.IsKeyLit (.int .i64 (c : Int)) := lawI.key (key_int h)
/-- Where c is in I. -/
def pix (I : List Nat) (c : Nat) : Nat := if c ∈ I then I.idxOf c else 0
theorem pix_lt {I : List Nat} {c : Nat} (h : c ∈ I) : pix I c < I.length := by unfold pix; rw [if_pos h]; exact List.idxOf_lt_length_of_mem h
theorem pix_at {I : List Nat} {c : Nat} (h : c ∈ I) : I[pix I c]? = some c := by
  rw [List.getElem?_eq_getElem (pix_lt h)]
  congr 1
  have h2 : I[I.idxOf c]'(List.idxOf_lt_length_of_mem h) = c := List.getElem_idxOf _
  unfold pix
  simp only [if_pos h]
  exact h2
/-- The map of leading columns: c is the row that I says. -/
def Piv (w : World) (b n : Nat) (I : List Nat) : Prop := ∃ D : DataW Unit, w.ownsMap Tryd.prog 3 (plainElem Tryd.prog 3) b n D ∧ ∀ c : Nat, c < 1000 → Maps.has D (.int .i64 (c : Int)) = decide (c ∈ I) ∧ D.atKey (.int .i64 (c : Int)) (.lit (.int .i64 0)) = .lit (.int .i64 ((pix I c : Nat) : Int))
theorem Piv.block {w w' : World} {b n : Nat} {I : List Nat} (h : Piv w b n I) (e : w'.heap[b]? = w.heap[b]?) : Piv w' b n I := by
  obtain ⟨D, h1, h2⟩ := h
  exact ⟨D, owns_block h1 e, h2⟩
theorem Piv.lt {w : World} {b n : Nat} {I : List Nat} (h : Piv w b n I) : b < w.heap.size := by
  obtain ⟨D, h1, h2⟩ := h
  exact h1.lt
theorem Piv.made (w : World) : Piv (w.alloc (.map #[] 0)) w.heap.size 0 [] :=
  ⟨.map [], World.ownsMap_made w Tryd.prog 3 _, fun c _ => ⟨by simp [Maps.has], by simp [DataW.atKey, pix]⟩⟩
theorem Piv.look_ok {w : World} {b n c : Nat} {I : List Nat} (h : Piv w b n I) (hc : c < 1000) : (Instr.lookup 80 (.map (some b)) (.int .i64 (c : Int)) true).run Tryd.prog w = .ok (.tuple #[.int .i64 ((pix I c : Nat) : Int), .bool (decide (c ∈ I))]) w := by
  obtain ⟨D, h1, h2⟩ := h
  obtain ⟨h3, h4⟩ := h2 c hc
  obtain ⟨v, ps, hr, hv⟩ := h1.look_ok lawI Tryd.underlying80 (zero_int w) (plainElem_int Tryd.underlying3 (by decide)) (key_int hc)
  rw [h4] at hv
  obtain ⟨a, rfl, ha, _⟩ := plainElem_int_inv Tryd.underlying3 hv
  simp at ha
  rw [hr, h3, ha.1]
theorem Piv.look {w : World} {b n c : Nat} {I : List Nat} (h : Piv w b n I) (hc : c < 1000) : (Instr.lookup 80 (.map (some b)) (.int .i64 (c : Int)) false).run Tryd.prog w = .ok (.int .i64 ((pix I c : Nat) : Int)) w := by
  obtain ⟨D, h1, h2⟩ := h
  obtain ⟨h3, h4⟩ := h2 c hc
  obtain ⟨v, ps, hr, hv⟩ := h1.lookup lawI Tryd.underlying80 (zero_int w) (plainElem_int Tryd.underlying3 (by decide)) (key_int hc)
  rw [h4] at hv
  obtain ⟨a, rfl, ha, _⟩ := plainElem_int_inv Tryd.underlying3 hv
  simp at ha
  rw [hr, ha.1]
theorem Piv.put {w : World} {b n c : Nat} {I : List Nat} (h : Piv w b n I) (hc : c < 1000) (hn : n < 1000) (hI : I.length < 1000) (hni : c ∉ I) : ∃ w', (Instr.mapUpdate 80 (.map (some b)) (.int .i64 (c : Int)) (.int .i64 (I.length : Int))).run Tryd.prog w = .ok () w' ∧ Piv w' b (n + 1) (I ++ [c]) ∧ w.grownBy w' (some b) := by
  obtain ⟨D, h1, h2⟩ := h
  obtain ⟨w', hr, h3, h4⟩ := h1.update lawI Tryd.underlying80 (by unfold maxLen; omega) (key_int hc) (plainElem_int Tryd.underlying3 (WalkArith.wf_i64 (n := (I.length : Int)) (by omega)))
  refine ⟨w', hr, ⟨_, h3, fun d hd => ?_⟩, h4⟩
  by_cases e : d = c
  · subst e
    rw [Maps.has_put_same h1.isMap (keyI hc), Maps.atKey_put_same h1.isMap (keyI hc)]
    refine ⟨by simp, ?_⟩
    have : pix (I ++ [d]) d = I.length := by
      unfold pix
      rw [if_pos (by simp), List.idxOf_append, if_neg hni]
      simp
    rw [this]
  · have hne : (Lit.int .i64 (d : Int)) ≠ .int .i64 (c : Int) := fun g => by
      have := (Lit.int.inj g).2
      omega
    rw [Maps.has_put_other hne, Maps.atKey_put_other hne]
    obtain ⟨h5, h6⟩ := h2 d hd
    have e1 : decide (d ∈ I ++ [c]) = decide (d ∈ I) := by
      have : (d ∈ I ++ [c]) ↔ d ∈ I := by simp [e]
      exact decide_eq_decide.2 this
    have e2 : pix (I ++ [c]) d = pix I d := by
      unfold pix
      by_cases g : d ∈ I
      · rw [if_pos g, if_pos (by simp [g]), List.idxOf_append, if_pos g]
      · rw [if_neg g, if_neg (by simp [g, e])]
    rw [e1, e2]
    exact ⟨h5, h6⟩
theorem kept_grown {w w' : World} {r : Option Nat} (h : w.grownBy w' r) : Kept r w.heap.size w w' := ⟨h.os, h.tape, h.output, h.size, h.block⟩
theorem own_kept {w w' : World} {R : Nat} {e : TypeId} {v : Value} {n : Nat} {xs : List Value} (h : w.ownsRow R e 1 v n xs) (hk : ∀ j, v.ownBlock = some j → j < w.heap.size → w'.heap[j]? = w.heap[j]?) : w'.ownsRow R e 1 v n xs := by
  refine ⟨h.1, ?_⟩
  rcases h.2 with h0 | ⟨g, cap, cur, h1, h2, h3, h4⟩
  · exact .inl h0
  · exact .inr ⟨g, cap, cur, h1, h2, (hk g (by rw [h1]; rfl) (Array.getElem?_eq_some_iff.1 h3).1).trans h3, h4⟩
theorem own_lt {w : World} {R : Nat} {e : TypeId} {v : Value} {n : Nat} {xs : List Value} (h : w.ownsRow R e 1 v n xs) {j : Nat} (hj : v.ownBlock = some j) : R ≤ j ∧ j < w.heap.size := by
  rcases own_cases h with ⟨rfl, _⟩ | ⟨g, cap, rfl, h1, h2, _⟩
  · simp [Value.ownBlock] at hj
  · have : g = j := by simpa [Value.ownBlock] using hj
    subst this
    exact ⟨h1, h2⟩
/-- A vector of one word. -/
def bsl (b : Nat) : Value := .slice (some ⟨b, 0, none⟩) 1 1
/-- The state: in the block Q the rows, the map M and the leading columns L; row c lies in block bl c and is ρ c; the rows came in the order I, the map has J. -/
structure St (V : World) (Q M : Nat) (r0 l0 rv lv : Value) (I J L : List Nat) (bl ρ : Nat → Nat) : Prop where
  box : Box V Q #[r0, .map (some M), l0, .slice none 0 0] 82
  rws : V.ownsRow (Q + 1) 68 1 rv I.length (I.map fun c => bsl (bl c))
  lds : Row V (Q + 1) lv (ints L)
  piv : Piv V M J.length J
  bts : ∀ c, c ∈ J → Bx V (bl c) (ρ c)
  hi : ∀ c, c ∈ J → Q < bl c
  sep : ∀ c d, c ∈ J → d ∈ J → bl c = bl d → c = d
  ar : ∀ c, c ∈ J → rv.ownBlock ≠ some (bl c)
  al : ∀ c, c ∈ J → lv.ownBlock ≠ some (bl c)
  arl : rv.ownBlock = none ∨ rv.ownBlock ≠ lv.ownBlock
  mq : M < Q
/-- A block that the state does not use. -/
structure Fr (Q : Nat) (rv lv : Value) (J : List Nat) (bl : Nat → Nat) (b : Nat) : Prop where
  hi : Q < b
  r : rv.ownBlock ≠ some b
  l : lv.ownBlock ≠ some b
  b : ∀ c, c ∈ J → bl c ≠ b
section
variable {V W : World} {Q M : Nat} {r0 l0 rv lv : Value} {I J L : List Nat} {bl ρ : Nat → Nat}
theorem St.kept (h : St V Q M r0 l0 rv lv I J L bl ρ) {b : Option Nat} (hk : Kept b V.heap.size V W) (hf : ∀ b', b = some b' → Fr Q rv lv J bl b') : St W Q M r0 l0 rv lv I J L bl ρ := by
  have hne : ∀ j, (∀ b', b = some b' → j ≠ b') → some j ≠ b := fun j hj e => hj j e.symm rfl
  refine ⟨(hk.block Q h.box.lt (hne Q fun b' e g => by have := (hf b' e).hi; omega)).trans h.box, own_kept h.rws fun j hj hl => hk.block j hl (hne j fun b' e g => (hf b' e).r (by rw [hj, g])), own_kept h.lds fun j hj hl => hk.block j hl (hne j fun b' e g => (hf b' e).l (by rw [hj, g])), h.piv.block (hk.block M h.piv.lt (hne M fun b' e g => by have := (hf b' e).hi; have := h.mq; omega)), fun c hc => (hk.block (bl c) (Box.lt (h.bts c hc)) (hne (bl c) fun b' e g => (hf b' e).b c hc g)).trans (h.bts c hc), h.hi, h.sep, h.ar, h.al, h.arl, h.mq⟩
theorem St.below (h : St V Q M r0 l0 rv lv I J L bl ρ) (hb : Below V.heap.size V W) : St W Q M r0 l0 rv lv I J L bl ρ := h.kept (b := none) (Kept.of hb) fun b' e => by cases e
theorem St.alloc (h : St V Q M r0 l0 rv lv I J L bl ρ) (o : Obj) : St (V.alloc o) Q M r0 l0 rv lv I J L bl ρ := h.below ((Below.refl _ _).alloc (Nat.le_refl _) o)
/-- A row is written anew. -/
theorem St.setRow (h : St V Q M r0 l0 rv lv I J L bl ρ) {c y : Nat} (hc : c ∈ J) (hk : Kept (some (bl c)) V.heap.size V W) (hx : Bx W (bl c) y) : St W Q M r0 l0 rv lv I J L bl (upd ρ c y) := by
  have hQ := h.hi c hc
  refine ⟨(hk.block Q h.box.lt (fun e => by cases e; omega)).trans h.box, own_kept h.rws fun j hj hl => hk.block j hl (fun e => h.ar c hc (by rw [hj, e])), own_kept h.lds fun j hj hl => hk.block j hl (fun e => h.al c hc (by rw [hj, e])), h.piv.block (hk.block M h.piv.lt (fun e => by cases e; have := h.mq; omega)), fun d hd => ?_, h.hi, h.sep, h.ar, h.al, h.arl, h.mq⟩
  by_cases e : d = c
  · rw [e, upd_at]; exact hx
  · rw [upd_ne e]
    exact (hk.block (bl d) (Box.lt (h.bts d hd)) (fun g => e (h.sep d c hd hc (Option.some.inj g)))).trans (h.bts d hd)
/-- A new leading column enters the map. -/
theorem St.put (h : St V Q M r0 l0 rv lv J J L bl ρ) {c b x : Nat} (hc : c ∉ J) (hf : Fr Q rv lv J bl b) (hx : Bx V b x) (hg : V.grownBy W (some M)) (hp : Piv W M (J.length + 1) (J ++ [c])) : St W Q M r0 l0 rv lv J (J ++ [c]) L (upd bl c b) (upd ρ c x) := by
  have hne : ∀ d, d ∈ J → d ≠ c := fun d hd e => hc (e ▸ hd)
  have hm := h.mq
  have hr : ∀ j, rv.ownBlock = some j → some j ≠ some M := fun j hj e => by have := (own_lt h.rws hj).1; cases e; omega
  have hl : ∀ j, lv.ownBlock = some j → some j ≠ some M := fun j hj e => by have := (own_lt h.lds hj).1; cases e; omega
  have hcase : ∀ {P : Nat → Prop}, (∀ d, d ∈ J → P d) → P c → ∀ d, d ∈ J ++ [c] → P d := fun {P} h1 h2 d hd => by
    rcases List.mem_append.1 hd with hd | hd
    · exact h1 d hd
    · rw [List.mem_singleton] at hd; rw [hd]; exact h2
  refine ⟨(hg.block Q h.box.lt (fun e => by cases e; omega)).trans h.box, ?_, own_kept h.lds fun j hj hlt => hg.block j hlt (hl j hj), by rw [List.length_append]; exact hp, ?_, ?_, ?_, ?_, ?_, h.arl, h.mq⟩
  · have e : (J.map fun d => bsl (upd bl c b d)) = J.map fun d => bsl (bl d) := List.map_congr_left fun d hd => by rw [upd_ne (hne d hd)]
    rw [e]
    exact own_kept h.rws fun j hj hlt => hg.block j hlt (hr j hj)
  · exact hcase (fun d hd => by
      rw [upd_ne (hne d hd), upd_ne (hne d hd)]
      exact (hg.block (bl d) (Box.lt (h.bts d hd)) (fun e => by have := h.hi d hd; cases e; omega)).trans (h.bts d hd)) (by
      rw [upd_at, upd_at]
      exact (hg.block b (Box.lt hx) (fun e => by have := hf.hi; cases e; omega)).trans hx)
  · exact hcase (fun d hd => by rw [upd_ne (hne d hd)]; exact h.hi d hd) (by rw [upd_at]; exact hf.hi)
  · intro d e hd he
    refine hcase (P := fun d => upd bl c b d = upd bl c b e → d = e) (fun d hd => ?_) ?_ d hd
    · refine hcase (P := fun e => upd bl c b d = upd bl c b e → d = e) (fun e he => ?_) ?_ e he
      · rw [upd_ne (hne d hd), upd_ne (hne e he)]; exact h.sep d e hd he
      · rw [upd_ne (hne d hd), upd_at]; exact fun g => absurd g (hf.b d hd)
    · refine hcase (P := fun e => upd bl c b c = upd bl c b e → c = e) (fun e he => ?_) (fun _ => rfl) e he
      rw [upd_ne (hne e he), upd_at]; exact fun g => absurd g.symm (hf.b e he)
  · exact hcase (fun d hd => by rw [upd_ne (hne d hd)]; exact h.ar d hd) (by rw [upd_at]; exact hf.r)
  · exact hcase (fun d hd => by rw [upd_ne (hne d hd)]; exact h.al d hd) (by rw [upd_at]; exact hf.l)
/-- The new row is appended to the rows. -/
theorem St.row (h : St V Q M r0 l0 rv lv I J L bl ρ) {c g cap n : Nat} (hc : c ∈ J) (ho : W.ownsRow (Q + 1) 68 1 (.slice (some ⟨g, 0, none⟩) n cap) (I.length + 1) ((I.map fun c => bsl (bl c)) ++ [bsl (bl c)])) (hg : V.grownBy W rv.ownBlock) (hat : rv.ownBlock = some g ∨ g = V.heap.size) : St W Q M r0 l0 (.slice (some ⟨g, 0, none⟩) n cap) lv (I ++ [c]) J L bl ρ := by
  have hm := h.mq
  have hQr : rv.ownBlock ≠ some Q := fun e => by have := (own_lt h.rws e).1; omega
  have hMr : rv.ownBlock ≠ some M := fun e => by have := (own_lt h.rws e).1; omega
  have hob : (Value.slice (some ⟨g, 0, none⟩) n cap).ownBlock = some g := rfl
  refine ⟨(hg.block Q h.box.lt (Ne.symm hQr)).trans h.box, by rw [List.length_append, List.map_append]; exact ho, own_kept h.lds fun j hj hlt => hg.block j hlt (fun e => ?_), h.piv.block (hg.block M h.piv.lt (Ne.symm hMr)), fun d hd => (hg.block (bl d) (Box.lt (h.bts d hd)) (Ne.symm (h.ar d hd))).trans (h.bts d hd), h.hi, h.sep, fun d hd e => ?_, h.al, ?_, h.mq⟩
  · rcases h.arl with e1 | e1
    · rw [e1] at e; cases e
    · exact e1 (e.symm.trans hj.symm)
  · rw [hob] at e
    have e2 := Option.some.inj e
    rcases hat with e1 | e1
    · exact h.ar d hd (by rw [e1, e2])
    · have := Box.lt (h.bts d hd); omega
  · right
    rw [hob]
    intro e
    rcases hat with e1 | e1
    · rcases h.arl with e3 | e3
      · rw [e3] at e1; cases e1
      · exact e3 (e1.trans e)
    · have := (own_lt h.lds e.symm).2; omega
theorem St.lead (h : St V Q M r0 l0 rv lv I J L bl ρ) {c g cap n : Nat} (ho : Row W (Q + 1) (.slice (some ⟨g, 0, none⟩) n cap) (ints (L ++ [c]))) (hg : V.grownBy W lv.ownBlock) (hat : some g = lv.ownBlock ∨ g = V.heap.size) : St W Q M r0 l0 rv (.slice (some ⟨g, 0, none⟩) n cap) I J (L ++ [c]) bl ρ := by
  have hm := h.mq
  have hQr : lv.ownBlock ≠ some Q := fun e => by have := (own_lt h.lds e).1; omega
  have hMr : lv.ownBlock ≠ some M := fun e => by have := (own_lt h.lds e).1; omega
  have hob : (Value.slice (some ⟨g, 0, none⟩) n cap).ownBlock = some g := rfl
  refine ⟨(hg.block Q h.box.lt (Ne.symm hQr)).trans h.box, own_kept h.rws fun j hj hlt => hg.block j hlt (fun e => ?_), ho, h.piv.block (hg.block M h.piv.lt (Ne.symm hMr)), fun d hd => (hg.block (bl d) (Box.lt (h.bts d hd)) (Ne.symm (h.al d hd))).trans (h.bts d hd), h.hi, h.sep, h.ar, fun d hd e => ?_, ?_, h.mq⟩
  · rcases h.arl with e1 | e1
    · rw [e1] at hj; cases hj
    · exact e1 (hj.trans e)
  · rw [hob] at e
    have e2 := Option.some.inj e
    rcases hat with e1 | e1
    · exact h.al d hd (by rw [← e1, e2])
    · have := Box.lt (h.bts d hd); omega
  · rw [hob]
    rcases h.arl with e3 | e3
    · exact .inl e3
    · right
      intro e
      rcases hat with e1 | e1
      · exact e3 (e.trans e1)
      · have := (own_lt h.rws e).2; omega
theorem St.store (h : St V Q M r0 l0 rv lv I J L bl ρ) {r1 l1 x : Value} {i : Nat} (hb : #[r0, .map (some M), l0, .slice none 0 0].setIfInBounds i x = #[r1, .map (some M), l1, .slice none 0 0]) : St (V.setCell ⟨Q, i, none⟩ x) Q M r1 l1 rv lv I J L bl ρ := by
  have hk : ∀ j, j ≠ Q → (V.setCell ⟨Q, i, none⟩ x).heap[j]? = V.heap[j]? := fun j hj => Below.heap_setCell V ⟨Q, i, none⟩ x j hj
  refine ⟨by rw [← hb]; exact h.box.set i x, own_kept h.rws fun j hj hlt => hk j (by have := (own_lt h.rws hj).1; omega), own_kept h.lds fun j hj hlt => hk j (by have := (own_lt h.lds hj).1; omega), h.piv.block (hk M (by have := h.mq; omega)), fun d hd => (hk (bl d) (by have := h.hi d hd; omega)).trans (h.bts d hd), h.hi, h.sep, h.ar, h.al, h.arl, h.mq⟩
theorem St.store0 (h : St V Q M r0 l0 rv lv I J L bl ρ) : St (V.setCell ⟨Q, 0, none⟩ rv) Q M rv l0 rv lv I J L bl ρ := h.store rfl
theorem St.store2 (h : St V Q M r0 l0 rv lv I J L bl ρ) : St (V.setCell ⟨Q, 2, none⟩ lv) Q M r0 lv rv lv I J L bl ρ := h.store rfl
/-- A row of the state. -/
theorem St.at_ (h : St V Q M r0 l0 rv lv I J L bl ρ) {c : Nat} (hc : c ∈ I) : ∃ g cap, rv = .slice (some ⟨g, 0, none⟩) I.length cap ∧ V.cell? ⟨g, pix I c, none⟩ = some (.slice (some ⟨bl c, 0, none⟩) 1 1) := by
  have hl := pix_lt hc
  rcases own_cases h.rws with ⟨_, h0⟩ | ⟨g, cap, e, _, _, hcell⟩
  · omega
  · exact ⟨g, cap, e, hcell _ _ (by rw [List.getElem?_map, pix_at hc]; rfl)⟩
theorem St.rform (h : St V Q M r0 l0 rv lv I J L bl ρ) : ∃ o cap, rv = .slice o I.length cap := by
  rcases own_cases h.rws with ⟨e, h0⟩ | ⟨g, cap, e, _⟩
  · exact ⟨none, 0, by rw [h0]; exact e⟩
  · exact ⟨_, cap, e⟩
theorem Fr.r' {b g cap n : Nat} (h : Fr Q rv lv J bl b) (hb : b < V.heap.size) (hat : rv.ownBlock = some g ∨ g = V.heap.size) : Fr Q (.slice (some ⟨g, 0, none⟩) n cap) lv J bl b :=
  ⟨h.hi, fun e => by
    have e2 : g = b := Option.some.inj e
    rcases hat with e1 | e1
    · exact h.r (by rw [e1, e2])
    · omega, h.l, h.b⟩
end

end Go.Proofs.YtbefkngeffpokaaDoor
