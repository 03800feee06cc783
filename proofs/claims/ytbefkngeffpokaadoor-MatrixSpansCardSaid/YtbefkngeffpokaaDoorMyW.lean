/- What both sides return, law by law: Check, Transpose, Apply, Echelon, Rank, Kernel. -/
import Derived.Test.YtbefkngeffpokaaDoorMyS
import Derived.Test.YtbefkngeffpokaaDoorMyT
import Derived.Test.YtbefkngeffpokaaDoorMxR
import Derived.Test.YtbefkngeffpokaaDoorMyA
import Derived.Test.YtbefkngeffpokaaDoorMyI
import Derived.Test.YtbefkngeffpokaaDoorMxK
import Derived.WalkKit
import Derived.WalkSpells
import Derived.WalkLawsBesides
import Derived.Handy
import Derived.Deep.QuietTactic
import Derived.BigQuiet
import Derived.Outline
import Derived.Laws.BitsAllLaws
import Derived.IntWalk
import Derived.Lib.SmallJoins
import Derived.Lib.Hide
import Derived.Deep.DeepCutAuto
import Derived.LoopTactic
import Derived.Deep.RegionWith
import Derived.Laws.CopyOwn
import Derived.Maps.OwnOps
import Derived.Maps.OwnSet
import Derived.Laws.OwnMore
import Derived.Maps.AppendAt
import Derived.RangeFuncNested
import Derived.RangeFuncBound
import Derived.RangeFuncCalls
import Derived.RangeFuncLeaves
import Derived.RangeFuncBox
import Derived.RangeFuncFrom
import Derived.Shelf.Abstract
import Derived.Shelf.RegionOpen
import Derived.OwnWalkIn
import Derived.TacticsInMore
import Derived.LoopNIn
import Derived.LoopIn
import Derived.Deep.RegionHeld3
import Derived.RegionTactic
import Derived.ChangeAlike
namespace Go.Proofs.YtbefkngeffpokaaDoor
set_option linter.unusedVariables false
set_option linter.unusedSimpArgs false
open Go.RowKit

theorem mats_one (U : World) (C : Int) (o : Option Addr) (K cap : Nat) : Mats (U.alloc (.cells #[.int .i64 C, .slice o K cap] 24)) U.heap.size 1 (fun _ => C) (fun _ => o) (fun _ => K) (fun _ => cap) := by
  have b := mbox U C o K cap
  refine ⟨b.lt, fun c hc => ?_, fun c hc => ?_⟩
  · obtain rfl : c = 0 := by omega
    exact b.cell 0
  · obtain rfl : c = 0 := by omega
    exact b.cell 1
/-- A matrix and an error come back. -/
def MOut (N K : Nat) (r : Nat → Nat) (v : Int) (w : World) (e : Ending) (w' : World) : Prop := ∃ o cap, e = .returned (.tuple #[.agg #[.int .i64 (N : Int), .slice o K cap], .int .i64 v]) ∧ Mx w' o K N r ∧ Below w.heap.size w w'
theorem MRes.out {N K : Nat} {r : Nat → Nat} {v : Int} {w : World} {e : Ending} {w' : World} (h : MRes N K r v w e w') : MOut N K r v w e w' := by
  obtain ⟨o, cap, h1, h2, h3⟩ := h
  exact ⟨o, cap, h1, h2.mx, h3⟩
theorem check_pair (C : Int) (K : Nat) (o : Option Addr) (cap : Nat) (w : World) (hM : Mst w C o K cap) : ∃ v : Int, ∀ W, Below w.heap.size w W →
    (Calls Tryd.prog 18 #[mv C o K cap] W fun e w' => e = .returned (.int .i64 v) ∧ Below W.heap.size W w') ∧
    (Calls Tryd.prog 19 #[mv C o K cap] W fun e w' => e = .returned (.int .i64 v) ∧ Below W.heap.size W w') := by
  rcases hM with ⟨c, h0, h1⟩ | ⟨N, r, rfl, hN, hK, hr, hmx⟩
  · exact ⟨c, h1⟩
  · exact ⟨0, fun W hW => ⟨check_mx N K (by omega) (by omega) r o cap W (hmx.below hW), rcheck_mx N K (by omega) (by omega) r o cap W (hmx.below hW)⟩⟩
theorem trans_pair (C : Int) (K : Nat) (o : Option Addr) (cap : Nat) (w : World) (hM : Mst w C o K cap) : ∃ (N' K' : Nat) (r' : Nat → Nat) (v : Int), N' ≤ 1000000 ∧ K' ≤ 1000000 ∧ ∀ W, Below w.heap.size w W →
    Calls Tryd.prog 14 #[mv C o K cap] W (MOut N' K' r' v W) ∧
    Calls Tryd.prog 15 #[mv C o K cap] W (MOut N' K' r' v W) := by
  rcases hM with ⟨c, h0, h1⟩ | ⟨N, r, rfl, hN, hK, hr, hmx⟩
  · exact ⟨0, 0, fun _ => 0, c, by omega, by omega, fun W hW => ⟨(trans_bad C K o cap W c h0 fun V hV => (h1 V (hW.trans (hV.mono hW.size))).1).mono fun e w' h => h.out, (rtrans_bad C K o cap W c h0 fun V hV => (h1 V (hW.trans (hV.mono hW.size))).2).mono fun e w' h => h.out⟩⟩
  · exact ⟨K, N, trr K r, 0, by omega, by omega, fun W hW => ⟨trans_good N K (by omega) (by omega) r o cap W (hmx.below hW), (rtrans_good N K (by omega) (by omega) r o cap W (hmx.below hW)).mono fun e w' h => h.out⟩⟩
theorem ech_pair (C : Int) (K : Nat) (o : Option Addr) (cap : Nat) (w : World) (hM : Mst w C o K cap) : ∃ (N' K' : Nat) (r' : Nat → Nat) (v : Int), N' ≤ 1000000 ∧ K' ≤ 1000000 ∧ ∀ W, Below w.heap.size w W → Tb W →
    Calls Tryd.prog 26 #[mv C o K cap] W (MOut N' K' r' v W) ∧
    Calls Tryd.prog 27 #[mv C o K cap] W (MOut N' K' r' v W) := by
  rcases hM with ⟨c, h0, h1⟩ | ⟨N, r, rfl, hN, hK, hr, hmx⟩
  · exact ⟨0, 0, fun _ => 0, c, by omega, by omega, fun W hW hT => ⟨(ech_bad C K o cap W c h0 fun V hV => (h1 V (hW.trans (hV.mono hW.size))).1).mono fun e w' h => h.out, (rech_bad C K o cap W c h0 fun V hV => (h1 V (hW.trans (hV.mono hW.size))).2).mono fun e w' h => h.out⟩⟩
  · obtain ⟨T, τ, hcan⟩ := can_of hr
    have hl := hcan.len_le hr
    exact ⟨N, T.length, fun i => τ (T.getD i 0), 0, by omega, by omega, fun W hW hT => ⟨(ech_good N K (by omega) (by omega) r hr T τ hcan sort_ok o cap W (hmx.below hW) hT).mono fun e w' h => h.out, rech_good N K (by omega) (by omega) r hr T τ hcan o cap W (hmx.below hW)⟩⟩
theorem rank_pair (C : Int) (K : Nat) (o : Option Addr) (cap : Nat) (w : World) (hM : Mst w C o K cap) : ∃ n v : Int, ∀ W, Below w.heap.size w W → Tb W →
    (Calls Tryd.prog 28 #[mv C o K cap] W fun e w' => e = .returned (.tuple #[.int .i64 n, .int .i64 v]) ∧ Below W.heap.size W w') ∧
    (Calls Tryd.prog 29 #[mv C o K cap] W fun e w' => e = .returned (.tuple #[.int .i64 n, .int .i64 v]) ∧ Below W.heap.size W w') := by
  rcases hM with ⟨c, h0, h1⟩ | ⟨N, r, rfl, hN, hK, hr, hmx⟩
  · exact ⟨0, c, fun W hW hT => ⟨rank_bad C K o cap W c h0 fun V hV => (h1 V (hW.trans (hV.mono hW.size))).1, rrank_bad C K o cap W c h0 fun V hV => (h1 V (hW.trans (hV.mono hW.size))).2⟩⟩
  · obtain ⟨T, τ, hcan⟩ := can_of hr
    exact ⟨(T.length : Int), 0, fun W hW hT => ⟨rank_good N K (by omega) (by omega) r hr T τ hcan sort_ok o cap W (hmx.below hW) hT, rrank_good N K (by omega) (by omega) r hr T τ hcan o cap W (hmx.below hW)⟩⟩
theorem ker_pair (C : Int) (K : Nat) (o : Option Addr) (cap : Nat) (w : World) (hM : Mst w C o K cap) : ∃ (N' K' : Nat) (r' : Nat → Nat) (v : Int), N' ≤ 1000000 ∧ K' ≤ 1000000 ∧ ∀ W, Below w.heap.size w W → Tb W →
    Calls Tryd.prog 30 #[mv C o K cap] W (MOut N' K' r' v W) ∧
    Calls Tryd.prog 31 #[mv C o K cap] W (MOut N' K' r' v W) := by
  rcases hM with ⟨c, h0, h1⟩ | ⟨N, r, rfl, hN, hK, hr, hmx⟩
  · exact ⟨0, 0, fun _ => 0, c, by omega, by omega, fun W hW hT => ⟨(ker_bad C K o cap W c h0 fun V hV => (h1 V (hW.trans (hV.mono hW.size))).1).mono fun e w' h => h.out, (rker_bad C K o cap W c h0 fun V hV => (h1 V (hW.trans (hV.mono hW.size))).2).mono fun e w' h => h.out⟩⟩
  · obtain ⟨T, τ, hcan⟩ := can_of hr
    have hl : (nl N T).length ≤ N := by
      unfold nl
      exact Nat.le_trans (List.length_filter_le _ _) (by simp)
    exact ⟨N, (nl N T).length, fun i => kr T τ ((nl N T).getD i 0), 0, by omega, by omega, fun W hW hT => ⟨(ker_good N K (by omega) (by omega) r hr T τ hcan sort_ok o cap W (hmx.below hW) hT).mono fun e w' h => h.out, (rker_good N K (by omega) (by omega) r hr T τ hcan o cap W (hmx.below hW)).mono fun e w' h => h.out⟩⟩
theorem apply_pair (C : Int) (K : Nat) (o p : Option Addr) (cap n cp : Nat) (f : Nat → Int) (hn : n ≤ 1000) (w : World) (hM : Mst w C o K cap) (hL : Lz w p n f) : ∃ (l : List Nat) (v : Int), l.length ≤ 1000000 ∧ ∀ W, Below w.heap.size w W →
    Calls Tryd.prog 16 #[mv C o K cap, .slice p n cp] W (VRes l v W) ∧
    Calls Tryd.prog 17 #[mv C o K cap, .slice p n cp] W (VRes l v W) := by
  rcases hM with ⟨c, h0, h1⟩ | ⟨N, r, rfl, hN, hK, hr, hmx⟩
  · exact ⟨[], c, by simp, fun W hW => ⟨apply_bad C K o cap _ W c h0 fun V hV => (h1 V (hW.trans (hV.mono hW.size))).1, rapply_bad C K o cap _ W c h0 fun V hV => (h1 V (hW.trans (hV.mono hW.size))).2⟩⟩
  · have k1 := fun W (hW : Below w.heap.size w W) V (hV : Below W.heap.size W V) => check_mx N K (by omega) (by omega) r o cap V (hmx.below (hW.trans (hV.mono hW.size)))
    have k2 := fun W (hW : Below w.heap.size w W) V (hV : Below W.heap.size W V) => rcheck_mx N K (by omega) (by omega) r o cap V (hmx.below (hW.trans (hV.mono hW.size)))
    by_cases hb : vcode (N : Int) n f = 0
    · obtain ⟨bb, hbb, hbn, hbf⟩ := vcode_mask hb
      have z1 := lz_cong hL hbn hbf
      subst hbn
      exact ⟨el K (imr K N r bb), 0, by have := el_len K (imr K N r bb); omega, fun W hW => ⟨apply_good N K (by omega) (by omega) r o cap bb hbb p cp W (hmx.below hW) (z1.below hW), rapply_good N K (by omega) (by omega) r o cap bb p cp W (hmx.below hW) (z1.below hW)⟩⟩
    · exact ⟨[], _, by simp, fun W hW => ⟨apply_bad2 (N : Int) K o cap n (by omega) f p cp W (hL.below hW) _ rfl hb (k1 W hW), rapply_bad2 (N : Int) K o cap n (by omega) f p cp W (hL.below hW) _ rfl hb (k2 W hW)⟩⟩
/-- A list of numbers and an error come back. -/
def AOut (n : Nat) (f : Nat → Int) (v : Int) (w : World) (e : Ending) (w' : World) : Prop := ∃ o cap, e = .returned (.tuple #[.slice o n cap, .int .i64 v]) ∧ Lz w' o n f ∧ Below w.heap.size w w'
theorem VRes.out {l : List Nat} {v : Int} {w : World} {e : Ending} {w' : World} (h : VRes l v w e w') : AOut l.length (lz l) v w e w' := by
  obtain ⟨u, rfl, h2, h3⟩ := h
  obtain ⟨o, cap, rfl, h4⟩ := h2.lz
  exact ⟨o, cap, rfl, h4, h3⟩
theorem applied_pair (C : Int) (K : Nat) (o p : Option Addr) (cap n cp : Nat) (f : Nat → Int) (hn : n ≤ 1000) (w : World) (hM : Mst w C o K cap) (hL : Lz w p n f) : ∃ (m : Nat) (g : Nat → Int) (v : Int), m ≤ 1000000 ∧ ∀ W, Below w.heap.size w W →
    Calls Tryd.prog 16 #[mv C o K cap, .slice p n cp] W (AOut m g v W) ∧
    Calls Tryd.prog 17 #[mv C o K cap, .slice p n cp] W (AOut m g v W) := by
  obtain ⟨l, v, h1, h2⟩ := apply_pair C K o p cap n cp f hn w hM hL
  exact ⟨l.length, lz l, v, h1, fun W hW => ⟨(h2 W hW).1.mono fun e w' h => h.out, (h2 W hW).2.mono fun e w' h => h.out⟩⟩

end Go.Proofs.YtbefkngeffpokaaDoor
