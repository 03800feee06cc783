/- Tokens in plain numbers: bytes, classes, separators, signs, numbers, what Scan answers. -/
import Derived.WalkKit
namespace Go.Proofs.YtgckopicmobbgaaDoor.Lex
set_option linter.unusedVariables false
set_option linter.unusedSimpArgs false

/-- The bytes of a string as numbers, and back. -/
def bl (s : ByteArray) : List Nat := s.data.toList.map (·.toNat)
def mk (l : List Nat) : ByteArray := ⟨(l.map UInt8.ofNat).toArray⟩
theorem bl_len (s : ByteArray) : (bl s).length = s.size := by
  unfold bl
  rw [List.length_map]
  rfl
theorem bl_at {s : ByteArray} {i : Nat} (h : i < s.size) : (bl s)[i]? = some s[i].toNat := by
  unfold bl
  rw [List.getElem?_map, Array.getElem?_toList, Array.getElem?_eq_getElem (show i < s.data.size from h)]
  rfl
theorem bl_lt (s : ByteArray) : ∀ c ∈ bl s, c < 256 := by
  intro c hc
  obtain ⟨b, _, rfl⟩ := List.mem_map.1 hc
  exact b.toNat_lt
theorem mk_bl (s : ByteArray) : mk (bl s) = s := by
  unfold mk bl
  rw [List.map_map]
  have e : (UInt8.ofNat ∘ fun x : UInt8 => x.toNat) = id := by
    funext x
    simp
  rw [e, List.map_id]
theorem bl_mk {l : List Nat} (h : ∀ c ∈ l, c < 256) : bl (mk l) = l := by
  unfold mk bl
  simp only [List.map_map]
  refine (List.map_congr_left fun c hc => ?_).trans (List.map_id l)
  have := h c hc
  show (UInt8.ofNat c).toNat = c
  simp [UInt8.toNat_ofNat']
  omega
theorem bl_inj {s t : ByteArray} (h : bl s = bl t) : s = t := by rw [← mk_bl s, ← mk_bl t, h]
theorem bl_drop {s : ByteArray} {i : Nat} (h : i < s.size) : (bl s).drop i = s[i].toNat :: (bl s).drop (i + 1) := by
  have h1 : i < (bl s).length := by rw [bl_len]; exact h
  rw [List.drop_eq_getElem_cons h1]
  congr 1
  have h2 := bl_at h
  rw [List.getElem?_eq_getElem h1] at h2
  exact Option.some.inj h2
theorem bl_extract (s : ByteArray) (a b : Nat) : bl (s.extract a b) = ((bl s).drop a).take (b - a) := by
  unfold bl
  rw [← List.map_drop, ← List.map_take]
  congr 1
  rw [ByteArray.data_extract, Array.toList_extract]
theorem ext_mk (s : ByteArray) (a b : Nat) : s.extract a b = mk (((bl s).drop a).take (b - a)) := by
  rw [← bl_extract, mk_bl]
theorem mk_size (l : List Nat) : (mk l).size = l.length := by
  show (l.map UInt8.ofNat).toArray.size = _
  simp

def isLet (c : Nat) : Bool := (decide (97 ≤ c) && decide (c ≤ 122)) || (decide (65 ≤ c) && decide (c ≤ 90))
def isDig (c : Nat) : Bool := decide (48 ≤ c) && decide (c ≤ 57)
def isWrd (c : Nat) : Bool := isLet c || isDig c
def isBlk (c : Nat) : Bool := decide (c = 32) || decide (c = 9) || decide (c = 13) || decide (c = 10)
/-- How many bytes at the head are of a class. -/
def hdN (p : Nat → Bool) : List Nat → Nat
  | [] => 0
  | c :: r => if p c then hdN p r + 1 else 0
theorem hdN_le (p : Nat → Bool) : ∀ l, hdN p l ≤ l.length
  | [] => Nat.le_refl _
  | c :: r => by
    unfold hdN
    have := hdN_le p r
    split
    · simp; omega
    · simp
/-- How many bytes at the head are separators (true: in a comment). -/
def sepN : Bool → List Nat → Nat
  | _, [] => 0
  | b, c :: r => if (b && decide (c ≠ 10)) || decide (c = 35) then sepN true r + 1 else if isBlk c then sepN false r + 1 else 0
theorem sepN_le : ∀ b l, sepN b l ≤ l.length
  | _, [] => Nat.le_refl _
  | b, c :: r => by
    unfold sepN
    have h1 := sepN_le true r
    have h2 := sepN_le false r
    split
    · simp; omega
    · split
      · simp; omega
      · simp
/-- The signs of one byte, and the sign at the head. -/
def sg1 : List Nat := [59, 44, 58, 40, 41, 123, 125, 43, 45, 61, 60]
def sgnN : List Nat → Nat
  | [] => 0
  | c :: r => if (c = 60 ∨ c = 33) ∧ r.head? = some 61 then 2 else if c ∈ sg1 then 1 else 0
/-- The value of digits, where it is not too great. -/
def valN : Nat → List Nat → Option Nat
  | v, [] => some v
  | v, c :: r => if 1048576 < 10 * v + (c - 48) then none else valN (10 * v + (c - 48)) r
/-- The token at the head: its kind and its length, or the place and the number of the error. -/
def nxt (D : List Nat) : Nat × Nat × Nat × Nat :=
  if hdN isWrd D = 0 then (if sgnN D = 0 then (0, 0, 0, 4) else (2, sgnN D, 0, 0))
  else if isLet (D.headD 0) then (if 24 < hdN isWrd D then (0, 0, 0, 8) else (0, hdN isWrd D, 0, 0))
  else if hdN isDig D < hdN isWrd D then (0, 0, hdN isDig D, 4)
  else if (valN 0 (D.take (hdN isWrd D))).isNone then (0, 0, 0, 2) else (1, hdN isWrd D, 0, 0)
structure Tk where
  kd : Nat
  tx : List Nat
  pl : Nat
deriving DecidableEq
def scanF : Nat → Nat → List Nat → List Tk → List Tk × Nat × Nat
  | 0, q, _, acc => (acc ++ [⟨3, [], q⟩], 0, 0)
  | k + 1, q, D, acc => if D = [] then (acc ++ [⟨3, [], q⟩], 0, 0)
    else if (nxt D).2.2.2 ≠ 0 then ([], q + (nxt D).2.2.1, (nxt D).2.2.2)
    else scanF k (q + ((nxt D).2.1 + sepN false (D.drop (nxt D).2.1))) (D.drop ((nxt D).2.1 + sepN false (D.drop (nxt D).2.1))) (acc ++ [⟨(nxt D).1, D.take (nxt D).2.1, q⟩])
/-- What Scan answers. -/
def scanL (L : List Nat) : List Tk × Nat × Nat :=
  if 65536 < L.length then ([], 0, 13) else scanF L.length (sepN false L) (L.drop (sepN false L)) []
theorem hdN_yes {p : Nat → Bool} {c : Nat} {r : List Nat} (h : p c = true) : hdN p (c :: r) = hdN p r + 1 := if_pos h
theorem hdN_no {p : Nat → Bool} {c : Nat} {r : List Nat} (h : p c = false) : hdN p (c :: r) = 0 := if_neg (by rw [h]; decide)
def ne10 (c : Nat) : Bool := decide (c ≠ 10)
theorem sep_true : ∀ r, sepN true r = hdN ne10 r + sepN false (r.drop (hdN ne10 r))
  | [] => rfl
  | c :: r => by
    by_cases h : c = 10
    · subst h
      have e : hdN ne10 (10 :: r) = 0 := hdN_no (by decide)
      rw [e, List.drop_zero, Nat.zero_add]
      simp [sepN, isBlk]
    · have e : hdN ne10 (c :: r) = hdN ne10 r + 1 := hdN_yes (by unfold ne10; exact decide_eq_true h)
      rw [e, List.drop_succ_cons]
      have e2 : sepN true (c :: r) = sepN true r + 1 := by
        have h1 : ((true && decide (c ≠ 10)) || decide (c = 35)) = true := by simp [h]
        rw [sepN, if_pos h1]
      rw [e2, sep_true r]
      omega
theorem sep_hash (r : List Nat) : sepN false (35 :: r) = hdN ne10 (35 :: r) + sepN false ((35 :: r).drop (hdN ne10 (35 :: r))) := by
  have e : hdN ne10 (35 :: r) = hdN ne10 r + 1 := hdN_yes (by decide)
  rw [e, List.drop_succ_cons]
  have e2 : sepN false (35 :: r) = sepN true r + 1 := by simp [sepN]
  rw [e2, sep_true r]
  omega
theorem sep_blank {c : Nat} (r : List Nat) (h : isBlk c = true) : sepN false (c :: r) = sepN false r + 1 := by
  have h35 : ¬ (c = 35) := by
    intro e
    subst e
    revert h
    decide
  rw [sepN, if_neg (by simp [h35]), if_pos h]
theorem sep_stop {c : Nat} (r : List Nat) (h : isBlk c = false) (h35 : c ≠ 35) : sepN false (c :: r) = 0 := by
  rw [sepN, if_neg (by simp [h35]), if_neg (by rw [h]; decide)]
/-- The table of signs, in the package's order. -/
def sgT : List (List Nat) := [[60, 61], [33, 61], [59], [44], [58], [40], [41], [123], [125], [43], [45], [61], [60]]
def pfx : List Nat → List Nat → Bool
  | [], _ => true
  | _ :: _, [] => false
  | a :: x, b :: y => decide (a = b) && pfx x y
theorem sgn_find (D : List Nat) : sgT.find? (fun t => pfx t D) = if sgnN D = 0 then none else some (D.take (sgnN D)) := by
  match D with
  | [] => rfl
  | [c] =>
    by_cases h : c ∈ sg1
    · simp only [sg1, List.mem_cons, List.not_mem_nil, or_false] at h
      rcases h with rfl | rfl | rfl | rfl | rfl | rfl | rfl | rfl | rfl | rfl | rfl <;> decide
    · have h2 : sgnN [c] = 0 := by simp [sgnN, h]
      rw [if_pos h2]
      simp only [sg1, List.mem_cons, List.not_mem_nil, or_false, not_or] at h
      simp [sgT, pfx, List.find?, Ne.symm h.1, Ne.symm h.2.1, Ne.symm h.2.2.1, Ne.symm h.2.2.2.1, Ne.symm h.2.2.2.2.1, Ne.symm h.2.2.2.2.2.1, Ne.symm h.2.2.2.2.2.2.1, Ne.symm h.2.2.2.2.2.2.2.1, Ne.symm h.2.2.2.2.2.2.2.2.1, Ne.symm h.2.2.2.2.2.2.2.2.2.1, Ne.symm h.2.2.2.2.2.2.2.2.2.2]
  | c :: d :: r =>
    by_cases h2 : (c = 60 ∨ c = 33) ∧ d = 61
    · obtain ⟨h1, rfl⟩ := h2
      rcases h1 with rfl | rfl
      · simp [sgT, pfx, sgnN]
      · simp [sgT, pfx, sgnN]
    · by_cases h : c ∈ sg1
      · have e : sgnN (c :: d :: r) = 1 := by simp only [sgnN, List.head?_cons, Option.some.injEq, if_neg h2, if_pos h]
        rw [e]
        simp only [sg1, List.mem_cons, List.not_mem_nil, or_false] at h
        rcases h with rfl | rfl | rfl | rfl | rfl | rfl | rfl | rfl | rfl | rfl | rfl
        all_goals first | (simp [sgT, pfx]; done) | (have hd : ¬ 61 = d := fun e => h2 ⟨.inl rfl, e.symm⟩; simp [sgT, pfx, hd])
      · have e : sgnN (c :: d :: r) = 0 := by simp only [sgnN, List.head?_cons, Option.some.injEq, if_neg h2, if_neg h]
        rw [e, if_pos rfl]
        simp only [sg1, List.mem_cons, List.not_mem_nil, or_false, not_or] at h
        by_cases h33 : 33 = c
        · have hd : ¬ 61 = d := fun b => h2 ⟨.inr h33.symm, b.symm⟩
          simp [sgT, pfx, List.find?, hd, Ne.symm h.1, Ne.symm h.2.1, Ne.symm h.2.2.1, Ne.symm h.2.2.2.1, Ne.symm h.2.2.2.2.1, Ne.symm h.2.2.2.2.2.1, Ne.symm h.2.2.2.2.2.2.1, Ne.symm h.2.2.2.2.2.2.2.1, Ne.symm h.2.2.2.2.2.2.2.2.1, Ne.symm h.2.2.2.2.2.2.2.2.2.1, Ne.symm h.2.2.2.2.2.2.2.2.2.2]
        · simp [sgT, pfx, List.find?, h33, Ne.symm h.1, Ne.symm h.2.1, Ne.symm h.2.2.1, Ne.symm h.2.2.2.1, Ne.symm h.2.2.2.2.1, Ne.symm h.2.2.2.2.2.1, Ne.symm h.2.2.2.2.2.2.1, Ne.symm h.2.2.2.2.2.2.2.1, Ne.symm h.2.2.2.2.2.2.2.2.1, Ne.symm h.2.2.2.2.2.2.2.2.2.1, Ne.symm h.2.2.2.2.2.2.2.2.2.2]
theorem sgn_le (D : List Nat) : sgnN D ≤ D.length := by
  match D with
  | [] => simp [sgnN]
  | [c] => simp only [sgnN]; split <;> (try split) <;> simp_all
  | c :: d :: r => simp only [sgnN]; split <;> (try split) <;> simp
theorem nxt_le (D : List Nat) : (nxt D).2.1 ≤ D.length := by
  unfold nxt
  have := hdN_le isWrd D
  have := sgn_le D
  repeat' split
  all_goals simp
  all_goals omega
theorem nxt_pos (D : List Nat) (h : (nxt D).2.2.2 = 0) : 0 < (nxt D).2.1 := by
  revert h
  unfold nxt
  repeat' split
  all_goals simp
  all_goals omega
/-- The places that Scan goes through. -/
theorem scanF_end (k q : Nat) (acc : List Tk) : scanF k q [] acc = (acc ++ [⟨3, [], q⟩], 0, 0) := by cases k <;> simp [scanF]
theorem scanF_err {k q : Nat} {D : List Nat} {acc : List Tk} (hD : D ≠ []) (h : (nxt D).2.2.2 ≠ 0) : scanF (k + 1) q D acc = ([], q + (nxt D).2.2.1, (nxt D).2.2.2) := by rw [scanF, if_neg hD, if_pos h]
theorem scanF_next {k q : Nat} {D : List Nat} {acc : List Tk} (hD : D ≠ []) (h : (nxt D).2.2.2 = 0) : scanF (k + 1) q D acc = scanF k (q + ((nxt D).2.1 + sepN false (D.drop (nxt D).2.1))) (D.drop ((nxt D).2.1 + sepN false (D.drop (nxt D).2.1))) (acc ++ [⟨(nxt D).1, D.take (nxt D).2.1, q⟩]) := by rw [scanF, if_neg hD, if_neg (by simp [h])]
/-- A number: digits, at least one, of no too great value. -/
def numB (L : List Nat) : Bool := !L.isEmpty && decide (hdN isDig L = L.length) && (valN 0 L).isSome
theorem dig_all : ∀ L : List Nat, hdN isDig L = L.length → ∀ c ∈ L, isDig c = true
  | [], _, c, h => by simp at h
  | d :: r, h, c, hc => by
    cases hd : isDig d with
    | false => rw [hdN_no hd] at h; simp at h
    | true =>
      rw [hdN_yes hd] at h
      rcases List.mem_cons.1 hc with rfl | hc
      · exact hd
      · exact dig_all r (by simpa using h) c hc
theorem valN_cons (v c : Nat) (r : List Nat) : valN v (c :: r) = if 1048576 < 10 * v + (c - 48) then none else valN (10 * v + (c - 48)) r := rfl
theorem wrd_of_dig {c : Nat} (h : isDig c = true) : isWrd c = true := by unfold isWrd; rw [h, Bool.or_true]
theorem dig_le_wrd : ∀ D : List Nat, hdN isDig D ≤ hdN isWrd D
  | [] => Nat.le_refl _
  | c :: r => by
    cases h : isDig c with
    | false => rw [hdN_no h]; omega
    | true =>
      rw [hdN_yes h, hdN_yes (wrd_of_dig h)]
      have := dig_le_wrd r
      omega
theorem hd_take (p : Nat → Bool) : ∀ (D : List Nat) (n : Nat), hdN p D ≤ n → hdN p (D.take n) = hdN p D
  | [], n, _ => by simp
  | c :: r, 0, h => by
    cases hp : p c with
    | false => rw [hdN_no hp]; rfl
    | true => rw [hdN_yes hp] at h; omega
  | c :: r, n + 1, h => by
    rw [List.take_succ_cons]
    cases hp : p c with
    | false => rw [hdN_no hp, hdN_no hp]
    | true =>
      rw [hdN_yes hp] at h
      rw [hdN_yes hp, hdN_yes hp, hd_take p r n (by omega)]
theorem dig_take (D : List Nat) : hdN isDig (D.take (hdN isWrd D)) = hdN isDig D := hd_take _ _ _ (dig_le_wrd D)
theorem wrd_take (D : List Nat) : hdN isWrd (D.take (hdN isWrd D)) = hdN isWrd D := hd_take _ _ _ (Nat.le_refl _)
/-- The reserved words. -/
def rsT : List (List Nat) := [[67], [68], [69], [75], [97, 100, 118, 101, 114, 115, 97, 114, 121], [97, 108, 108], [97, 108, 108, 111, 119], [97, 108, 119, 97, 121, 115], [97, 110, 100], [97, 116], [99, 97, 108, 109], [99, 111, 117, 110, 116], [99, 114, 97, 115, 104], [100, 101, 99, 105, 100, 101, 100], [101, 118, 101, 110, 116, 117, 97, 108, 108, 121], [101, 118, 101, 114, 121, 111, 110, 101], [102, 97, 117, 108, 116, 121], [102, 111, 114], [102, 111, 114, 109, 117, 108, 97], [103, 105, 118, 101, 110], [103, 114, 97, 112, 104, 115], [104, 101, 97, 114, 100], [104, 101, 97, 114, 115], [105, 110], [105, 110, 112, 117, 116], [105, 110, 112, 117, 116, 115], [110, 101, 120, 116], [110, 111, 116], [111, 109, 105, 116], [111, 114], [111, 117, 116], [111, 117, 116, 112, 117, 116, 115], [112, 97, 114, 116, 105, 116, 105, 111, 110], [112, 114, 111, 98, 108, 101, 109], [112, 114, 111, 99, 101, 115, 115, 101, 115], [114, 101, 99, 101, 105, 118, 101], [114, 111, 117, 110, 100, 115], [115, 101, 110, 100], [115, 110, 97, 112, 115, 104, 111, 116], [115, 111, 109, 101], [116, 97, 115, 107], [116, 104, 101, 110], [116, 114, 117, 101], [117, 110, 100, 101, 114], [117, 110, 116, 105, 108], [119, 104, 101, 114, 101]]
theorem rs_256 : ∀ t ∈ rsT, ∀ c ∈ t, c < 256 := by decide +kernel
theorem sgT_256 : ∀ t ∈ sgT, ∀ c ∈ t, c < 256 := by decide
theorem drop_getD {T : List (List Nat)} {i : Nat} (h : i < T.length) : T.drop i = T.getD i [] :: T.drop (i + 1) := by
  rw [List.drop_eq_getElem_cons h, List.getD_eq_getElem?_getD, List.getElem?_eq_getElem h]
  rfl
theorem getD_mem {T : List (List Nat)} {i : Nat} (h : i < T.length) : T.getD i [] ∈ T := by
  rw [List.getD_eq_getElem?_getD, List.getElem?_eq_getElem h]
  exact List.getElem_mem h
/-- A word that may be a name. -/
def nameB (L : List Nat) : Bool := !L.isEmpty && decide (L.length ≤ 24) && isLet (L.headD 0) && decide (hdN isWrd L = L.length)
/-- Whether a text is one of its kind. -/
def fitB (k : Nat) (L : List Nat) : Bool := if k = 0 then nameB L else if k = 1 then numB L else if k = 2 then decide (L ∈ sgT) else L.isEmpty
/-- The line and the column behind some bytes. -/
def lcS (s : Nat × Nat) (x : Nat) : Nat × Nat := if x = 10 then (s.1 + 1, 1) else (s.1, s.2 + 1)
def lcF (P : List Nat) : Nat × Nat := P.foldl lcS (1, 1)
theorem lcS_fst (P : List Nat) (s : Nat × Nat) : (P.foldl lcS s).1 = s.1 + P.count 10 := by
  induction P generalizing s with
  | nil => rfl
  | cons x r ih =>
    rw [List.foldl_cons, ih, List.count_cons]
    unfold lcS
    by_cases h : x = 10
    · simp [h]; omega
    · simp [h]
theorem lcF_fst (P : List Nat) : (lcF P).1 = 1 + P.count 10 := lcS_fst P (1, 1)
theorem lcS_snd_none (P : List Nat) (s : Nat × Nat) (h : ∀ x ∈ P, x ≠ 10) : (P.foldl lcS s).2 = s.2 + P.length := by
  induction P generalizing s with
  | nil => rfl
  | cons x r ih =>
    rw [List.foldl_cons, ih _ (fun y hy => h y (List.mem_cons_of_mem _ hy))]
    have hx := h x List.mem_cons_self
    simp [lcS, hx]
    omega
theorem lcF_none (P : List Nat) (h : ∀ x ∈ P, x ≠ 10) : (lcF P).2 = P.length + 1 := by
  have := lcS_snd_none P (1, 1) h
  unfold lcF
  rw [this]
  omega
theorem lcF_last (A C : List Nat) (h : ∀ x ∈ C, x ≠ 10) : (lcF (A ++ 10 :: C)).2 = C.length + 1 := by
  unfold lcF
  rw [List.foldl_append, List.foldl_cons, lcS_snd_none C _ h]
  simp [lcS]
  omega
theorem lcF_snoc (P : List Nat) (x : Nat) : lcF (P ++ [x]) = lcS (lcF P) x := by
  unfold lcF
  rw [List.foldl_append]
  rfl
theorem lcS_bound (P : List Nat) (s : Nat × Nat) (h : 1 ≤ s.2) : 1 ≤ (P.foldl lcS s).2 ∧ (P.foldl lcS s).2 ≤ s.2 + P.length := by
  induction P generalizing s with
  | nil => exact ⟨h, Nat.le_refl _⟩
  | cons x r ih =>
    rw [List.foldl_cons]
    have := ih (lcS s x) (by unfold lcS; split <;> simp)
    have h2 : (lcS s x).2 ≤ s.2 + 1 := by unfold lcS; split <;> simp
    simp
    omega
theorem lcF_bound (P : List Nat) : 1 ≤ (lcF P).2 ∧ (lcF P).2 ≤ P.length + 1 := by
  have := lcS_bound P (1, 1) (Nat.le_refl _)
  unfold lcF
  omega
/-- The mark below a line. -/
def mark1 (x : Nat) : Nat := if x = 9 then 9 else 32
/-- The excerpt at a place. -/
def excL (L : List Nat) (k : Nat) : List Nat :=
  (L.drop (k + 1 - (lcF (L.take k)).2)).take (hdN ne10 (L.drop (k + 1 - (lcF (L.take k)).2))) ++ [10] ++ (((L.drop (k + 1 - (lcF (L.take k)).2)).take ((lcF (L.take k)).2 - 1)).map mark1) ++ [94]
theorem scanF_len : ∀ (k q : Nat) (D : List Nat) (acc : List Tk), (scanF k q D acc).1.length ≤ acc.length + k + 1
  | 0, q, D, acc => by simp [scanF]
  | k + 1, q, D, acc => by
    unfold scanF
    split
    · simp
    · split
      · simp
      · have := scanF_len k (q + ((nxt D).2.1 + sepN false (D.drop (nxt D).2.1))) (D.drop ((nxt D).2.1 + sepN false (D.drop (nxt D).2.1))) (acc ++ [⟨(nxt D).1, D.take (nxt D).2.1, q⟩])
        rw [List.length_append] at this
        simp at this
        omega
theorem scanL_len (L : List Nat) (h : L.length ≤ 65539) : (scanL L).1.length ≤ 1000000 := by
  unfold scanL
  split
  · simp
  · have := scanF_len L.length (sepN false L) (L.drop (sepN false L)) []
    simp at this
    omega
theorem scanL_empty : scanL [] = ([⟨3, [], 0⟩], 0, 0) := by decide

end Go.Proofs.YtgckopicmobbgaaDoor.Lex
