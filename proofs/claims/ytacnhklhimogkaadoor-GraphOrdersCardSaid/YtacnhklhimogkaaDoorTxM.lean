/- What the specification reads of a text, byte by byte, in plain numbers. -/
import Derived.Test.YtacnhklhimogkaaDoorAlM
import Derived.Test.YtacnhklhimogkaaDoorPaD
namespace Go.Proofs.YtacnhklhimogkaaDoor
set_option linter.unusedVariables false
set_option linter.unusedSimpArgs false
open Go.RowKit

/-- The number of parts so far, and their sets. -/
def scan1 (st : Option (Nat × (Nat → Nat))) (b : UInt8) : Option (Nat × (Nat → Nat)) :=
  match st with
  | none => none
  | some (n, h) => if b.toNat = 32 then (if 5 < n + 1 then none else some (n + 1, h)) else if b.toNat < 48 ∨ 53 ≤ b.toNat then none else some (n, upd h (n - 1) (h (n - 1) ||| 2 ^ (b.toNat - 48)))
def scanS (st : Option (Nat × (Nat → Nat))) (l : List UInt8) : Option (Nat × (Nat → Nat)) := l.foldl scan1 st
def scan (l : List UInt8) : Option (Nat × (Nat → Nat)) := scanS (some (1, fun _ => 0)) l
theorem scanS_none : ∀ l, scanS none l = none
  | [] => rfl
  | b :: l => scanS_none l
theorem scanS_app (st : Option (Nat × (Nat → Nat))) (l m : List UInt8) : scanS st (l ++ m) = scanS (scanS st l) m := List.foldl_append
theorem scan_take {l : List UInt8} {i : Nat} {b : UInt8} (h : l[i]? = some b) : scan (l.take (i + 1)) = scan1 (scan (l.take i)) b := by
  rw [List.take_add_one, h]
  exact scanS_app _ _ _
theorem scan_dead {l : List UInt8} {i : Nat} (h : scan (l.take i) = none) : scan l = none := by
  rw [← List.take_append_drop i l]
  unfold scan at h ⊢
  rw [scanS_app, h]
  exact scanS_none _
theorem scan1_space {n : Nat} {h : Nat → Nat} {b : UInt8} (hb : b.toNat = 32) (hn : n + 1 ≤ 5) : scan1 (some (n, h)) b = some (n + 1, h) := by
  show (if _ then _ else _) = _
  rw [if_pos hb, if_neg (by omega)]
theorem scan1_full {n : Nat} {h : Nat → Nat} {b : UInt8} (hb : b.toNat = 32) (hn : 5 < n + 1) : scan1 (some (n, h)) b = none := by
  show (if _ then _ else _) = _
  rw [if_pos hb, if_pos hn]
theorem scan1_bad {n : Nat} {h : Nat → Nat} {b : UInt8} (hb : b.toNat ≠ 32) (hd : b.toNat < 48 ∨ 53 ≤ b.toNat) : scan1 (some (n, h)) b = none := by
  show (if _ then _ else _) = _
  rw [if_neg hb, if_pos hd]
theorem scan1_digit {n : Nat} {h : Nat → Nat} {b : UInt8} (hd : 48 ≤ b.toNat ∧ b.toNat < 53) : scan1 (some (n, h)) b = some (n, upd h (n - 1) (h (n - 1) ||| 2 ^ (b.toNat - 48))) := by
  show (if _ then _ else _) = _
  rw [if_neg (by omega), if_neg (by omega)]

theorem scanS_digits (p : Nat) : ∀ (l : List UInt8) (h : Nat → Nat), (∀ b ∈ l, 48 ≤ b.toNat ∧ b.toNat < 53) → scanS (some (p + 1, h)) l = some (p + 1, upd h p (l.foldl orb1 (h p)))
  | [], h, _ => by
    show some (p + 1, h) = _
    have : upd h p (h p) = h := by funext i; unfold upd; split <;> simp_all
    rw [show List.foldl orb1 (h p) ([] : List UInt8) = h p from rfl, this]
  | b :: l, h, hb => by
    have h1 := hb b (List.mem_cons_self ..)
    show scanS (scan1 (some (p + 1, h)) b) l = _
    rw [scan1_digit h1, Nat.add_sub_cancel, scanS_digits p l _ (fun c hc => hb c (List.mem_cons_of_mem _ hc)), upd_upd, upd_at]
    have : orb1 (h p) b = h p ||| 2 ^ (b.toNat - 48) := by unfold orb1; rw [if_pos h1]
    rw [List.foldl_cons, this]
theorem rtl_dig (x m : Nat) (hm : m ≤ 5) : ∀ b ∈ rtl x m, 48 ≤ b.toNat ∧ b.toNat < 53 := by
  intro b hb
  obtain ⟨q, hq, rfl⟩ := rtl_bytes x m hm b hb
  obtain rfl | rfl | rfl | rfl | rfl : q = 0 ∨ q = 1 ∨ q = 2 ∨ q = 3 ∨ q = 4 := by omega
  all_goals decide

theorem scan_tail (a : Nat → Nat) (n : Nat) (hn : n ≤ 5) : ∀ k p h, p + 1 + k ≤ n → (∀ i, p < i → h i = 0) →
    scanS (some (p + 1, h)) (Lib.joinTail [32] ((List.range' (p + 1) k).map fun q => rtl (a q) n)) = some (p + 1 + k, fun i => if p < i ∧ i < p + 1 + k then orb (rtl (a i) n) else h i)
  | 0, p, h, _, hz => by
    show some (p + 1, h) = _
    rw [Nat.add_zero]
    congr 2
    funext i
    rw [if_neg (by omega)]
  | k + 1, p, h, hk, hz => by
    have e : (List.range' (p + 1) (k + 1)).map (fun q => rtl (a q) n) = rtl (a (p + 1)) n :: (List.range' (p + 1 + 1) k).map fun q => rtl (a q) n := by
      rw [List.range'_succ]; rfl
    rw [e]
    show scanS _ ([32] ++ rtl (a (p + 1)) n ++ Lib.joinTail [32] _) = _
    have hsp : scanS (some (p + 1, h)) [32] = some (p + 1 + 1, h) := scan1_space (b := 32) (by decide) (by omega)
    rw [scanS_app, scanS_app, hsp, scanS_digits (p + 1) _ h (rtl_dig _ _ hn), hz (p + 1) (by omega), scan_tail a n hn k (p + 1) _ (by omega) (fun i hi => by rw [upd_off _ _ (by omega)]; exact hz i (by omega))]
    rw [show p + 1 + 1 + k = p + 1 + (k + 1) from by omega]
    congr 2
    funext i
    by_cases h1 : p + 1 < i ∧ i < p + 1 + (k + 1)
    · rw [if_pos h1, if_pos (by omega)]
    · rw [if_neg h1]
      by_cases h2 : i = p + 1
      · subst h2
        rw [upd_at, if_pos (by omega)]
        rfl
      · rw [upd_off _ _ h2, if_neg (by omega)]

theorem gtx_list {n : Nat} (hn : n ≤ 5) (a : Nat → Nat) : (gtx n a).data.toList = Lib.join ((List.range n).map fun p => rtl (a p) n) [32] := by
  have hd : (gtx n a).data.toList = Lib.join (((List.range n).map fun p => rtx (a p) n).map (·.data.toList)) [32] := List.toList_toArray
  rw [hd, List.map_map]
  congr 1
  apply List.map_congr_left
  intro p _
  exact rtx_data (a p) n hn

/-- The text of a graph is scanned as the graph. -/
theorem scan_gtx {n : Nat} {a : Nat → Nat} (ha : WF n a) : ∃ h, scan (gtx n a).data.toList = some (n, h) ∧ ∀ p, p < 5 → h p = a p := by
  have h1 : 1 ≤ n := ha.1.1
  have h5 : n ≤ 5 := ha.1.2
  rw [gtx_list h5]
  obtain ⟨m, rfl⟩ : ∃ m, n = m + 1 := ⟨n - 1, by omega⟩
  have e : (List.range (m + 1)).map (fun q => rtl (a q) (m + 1)) = rtl (a 0) (m + 1) :: (List.range' (0 + 1) m).map fun q => rtl (a q) (m + 1) := by
    rw [List.range_eq_range', List.range'_succ]; rfl
  rw [e, Lib.join_cons]
  have ev : ∀ p, p < m + 1 → orb (rtl (a p) (m + 1)) = a p := by
    intro p hp
    have := orb_row h5 (ha.2.1 p hp).1
    rw [rtx_data _ _ h5] at this
    exact this
  refine ⟨fun i => if 0 < i ∧ i < 0 + 1 + m then orb (rtl (a i) (m + 1)) else upd (fun _ => 0) 0 ((rtl (a 0) (m + 1)).foldl orb1 0) i, ?_, ?_⟩
  · unfold scan
    rw [scanS_app, show (some (1, fun _ => 0) : Option (Nat × (Nat → Nat))) = some (0 + 1, fun _ => 0) from rfl, scanS_digits 0 _ _ (rtl_dig _ _ h5), scan_tail a (m + 1) h5 m 0 _ (by omega) (fun i hi => by rw [upd_off _ _ (by omega)])]
    rw [show 0 + 1 + m = m + 1 from by omega]
  · intro p hp
    show (if _ then _ else _) = _
    by_cases hpm : 0 < p ∧ p < 0 + 1 + m
    · rw [if_pos hpm, ev p (by omega)]
    · rw [if_neg hpm]
      by_cases h0 : p = 0
      · subst h0
        rw [upd_at]
        exact ev 0 (by omega)
      · rw [upd_off _ _ h0, ha.2.2 p (by omega) hp]

/-- What the specification takes for a text. -/
def IsT (s : ByteArray) (n : Nat) (h : Nat → Nat) : Prop := scan s.data.toList = some (n, h) ∧ WF n h ∧ gtx n h = s
theorem isT_of {s : ByteArray} (hs : IsText s) : ∃ h, IsT s (npart s) h ∧ ∀ p, p < 5 → h p = prt s p := by
  obtain ⟨h, h1, h2⟩ := scan_gtx hs.2.1
  have e := hs.2.2
  refine ⟨h, ⟨(congrArg (fun t : ByteArray => scan t.data.toList) e).symm.trans h1, wf_congr hs.2.1 h2, ?_⟩, h2⟩
  refine Eq.trans (gtx_congr fun p hp => h2 p (by have := hs.1; omega)) e
theorem isText_of {s : ByteArray} {n : Nat} {h : Nat → Nat} (hs : IsT s n h) : IsText s := by
  rw [← hs.2.2]
  exact gtx_isText hs.2.1

/-- The bytes of the first p rows, and of the next one's digits below q. -/
def jn (n : Nat) (a : Nat → Nat) (p : Nat) : List UInt8 := Lib.join ((List.range p).map fun q => rtl (a q) n) [32]
def jq (n : Nat) (a : Nat → Nat) (p q : Nat) : List UInt8 := (if p = 0 then [] else jn n a p ++ [32]) ++ rtl (a p) q
theorem joinTail_app (x : List UInt8) (sep : List UInt8) : ∀ r, Lib.joinTail sep (r ++ [x]) = Lib.joinTail sep r ++ (sep ++ x)
  | [] => by show sep ++ x ++ [] = [] ++ (sep ++ x); simp
  | y :: r => by
    show sep ++ y ++ Lib.joinTail sep (r ++ [x]) = sep ++ y ++ Lib.joinTail sep r ++ (sep ++ x)
    rw [joinTail_app x sep r]
    simp
theorem jq_full (n : Nat) (a : Nat → Nat) (p : Nat) : jq n a p n = jn n a (p + 1) := by
  unfold jq jn
  rw [List.range_succ, List.map_append]
  cases p with
  | zero =>
    show [] ++ rtl (a 0) n = _
    show _ = Lib.join [rtl (a 0) n] [32]
    rw [Lib.join_cons]
    show _ = rtl (a 0) n ++ []
    simp
  | succ p =>
    rw [if_neg (by omega)]
    rw [List.range_eq_range', List.range'_succ]
    show Lib.join (rtl (a 0) n :: _) [32] ++ [32] ++ _ = Lib.join (rtl (a 0) n :: (_ ++ [rtl (a (p + 1)) n])) [32]
    rw [Lib.join_cons, Lib.join_cons, joinTail_app]
    simp
theorem rtl_len (x : Nat) : ∀ m, (rtl x m).length ≤ m
  | 0 => Nat.le_refl _
  | m + 1 => by
    have := rtl_len x m
    unfold rtl
    split
    · simp; omega
    · omega
theorem jn_len (n : Nat) (a : Nat → Nat) : ∀ p, (jn n a p).length ≤ p * (n + 1)
  | 0 => by show (Lib.join [] [32]).length ≤ _; rw [Lib.join_nil]; simp
  | p + 1 => by
    have h1 := jn_len n a p
    have h2 := rtl_len (a p) n
    rw [← jq_full]
    unfold jq
    rw [Nat.add_mul]
    split <;> simp <;> omega
end Go.Proofs.YtacnhklhimogkaaDoor
