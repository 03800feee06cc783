/- caseSets: the classes of a partition as masks. -/
import Derived.Test.YtokjdlljhloflaaPtZ
import Derived.Test.YtokjdlljhloflaaPsG
import Derived.Test.YtokjdlljhloflaaTcM
import Derived.WalkKit
import Derived.WalkSpells
import Derived.WalkLawsBesides
import Derived.Handy
import Derived.Deep.QuietTactic
import Derived.BigQuiet
import Derived.Outline
import Derived.Laws.BitsAllLaws
import Derived.IntWalk
import Derived.Lib.SmallJoins
import Derived.Lib.Hide
import Derived.Deep.DeepCutAuto
import Derived.LoopTactic
import Derived.Deep.RegionWith
namespace Go.Proofs.Ytokjdlljhloflaa
set_option linter.unusedVariables false
set_option linter.unusedSimpArgs false
open Go.RowKit Part


def nints (l : List Nat) : List Int := l.map fun (x : Nat) => (x : Int)
theorem nints_snoc (l : List Nat) (x : Nat) : nints (l ++ [x]) = nints l ++ [(x : Int)] := by simp [nints]
theorem nints_len (l : List Nat) : (nints l).length = l.length := by simp [nints]
theorem memb_congr {a b : Nat → Nat} {n : Nat} (h : ∀ i, i < n → a i = b i) (c : Nat) : memb a n c = memb b n c := by
  unfold memb
  congr 1
  refine List.filter_congr fun j hj => ?_
  rw [h j (List.mem_range.1 hj)]
theorem ofz_all : ∀ n, n ≤ 5 → ∀ l, l ∈ pls n → ∀ c, c < cnt (fn l) n → Ps.ofz n 0 (memb (fn l) n c) = (((msf (fn l) n c : Nat) : Int), 0) := by
  have key : ∀ n : Fin 6, ∀ l, l ∈ pls n.val → ∀ c, c < cnt (fn l) n.val → Ps.ofz n.val 0 (memb (fn l) n.val c) = (((msf (fn l) n.val c : Nat) : Int), 0) := by decide +kernel
  intro n hn
  exact key ⟨n, by omega⟩
theorem ofz_memb {n : Nat} (hn : n ≤ 5) {a : Nat → Nat} (h : Wf n a) {c : Nat} (hc : c < cnt a n) : Ps.ofz n 0 (memb a n c) = (((msf a n c : Nat) : Int), 0) := by
  obtain ⟨l, h1, _, h3⟩ := by_pls hn h
  have e1 : cnt a n = cnt (fn l) n := cnt_congr h3
  have e2 : msf a n c = msf (fn l) n c := by
    unfold msf
    congr 1
    refine List.filter_congr fun j hj => ?_
    rw [h3 j (List.mem_range.1 hj)]
  rw [memb_congr h3 c, e2]
  exact ofz_all n hn l h1 c (by omega)
theorem memb_pos {n : Nat} {a : Nat → Nat} {c : Nat} (hc : c < cnt a n) : 0 < (memb a n c).length ∧ (memb a n c).length ≤ n := by
  obtain ⟨k, hk, e⟩ := cnt_occ a n c hc
  have h1 : (k : Int) ∈ memb a n c := List.mem_map.2 ⟨k, List.mem_filter.2 ⟨List.mem_range.2 hk, by simp [e]⟩, rfl⟩
  refine ⟨List.length_pos_of_mem h1, ?_⟩
  unfold memb
  rw [List.length_map]
  exact Nat.le_trans (List.length_filter_le _ _) (by simp)
theorem cnt_small5 (a : Nat → Nat) : ∀ i, cnt a i ≤ i
  | 0 => Nat.le_refl _
  | i + 1 => by
    have := cnt_small5 a i
    show (if a i = cnt a i then cnt a i + 1 else cnt a i) ≤ _
    split <;> omega
theorem cls_take {a : Nat → Nat} {n c : Nat} (hc : c < cnt a n) : (cls a n).take (c + 1) = (cls a n).take c ++ [msf a n c] := by
  have hl : c < (cls a n).length := by simp [cls, hc]
  rw [List.take_succ_eq_append_getElem hl]
  simp [cls]
theorem row_le {w : World} {R R' : Nat} {v : Value} {l : List Int} (h : Row w R v l) (hR : R' ≤ R) : Row w R' v l := by
  refine ⟨h.1, ?_⟩
  rcases h.2 with h0 | ⟨g, cap, cur, h1, h2, h3⟩
  · exact .inl h0
  · exact .inr ⟨g, cap, cur, h1, by omega, h3⟩
set_option maxRecDepth 100000 in
set_option maxHeartbeats 4000000 in
theorem caseSets_ok (n : Nat) (h1 : 1 ≤ n) (h5 : n ≤ 5) (f : Nat → Int) (hf : Good n f) (o : Option Addr) (cap : Nat) (w : World) (hL : Lz w o n f) :
    Calls Try.prog 6 #[.int .i64 (n : Int), .slice o n cap] w fun e w' => ∃ v, e = .returned (.tuple #[v, .bool true]) ∧ Row w' w.heap.size v (nints (cls (nat f) n)) ∧ Below w.heap.size w w' := by
  have H := Lib.hid (classes_good n f hf o cap w hL)
  have hw : Wf n (nat f) := hf.2.2
  have hof := fun c (hc : c < cnt (nat f) n) => ofz_memb h5 hw hc
  have hcn := cnt_small5 (nat f) n
  obtain ⟨a, ha⟩ : ∃ a, nat f = a := ⟨_, rfl⟩
  rw [ha] at H hof hcn ⊢
  have HOf := Lib.hid hof
  obtain ⟨k, hk⟩ : ∃ k, cnt a n = k := ⟨_, rfl⟩
  rw [hk] at H hcn
  have HK := Lib.hid hk
  clear hL hf hw hof ha hk
  go_enter Try.func6, Try.ntmps6
  go_wp2_with fail
  refine H.out.mono ?_
  rintro e W1 ⟨o2, c2, rfl, hls, hb1⟩
  have HLs := Lib.hid hls
  have HB1 := Lib.hid hb1
  clear hls hb1
  go_wp2_with fail
  go_loopw [8, 22] (fun v j wr => ∃ c : Nat, c ≤ k ∧ j = .int .i64 (c : Int) ∧ Row wr W1.heap.size v (nints ((cls a n).take c)) ∧ Below W1.heap.size W1 wr) (fun _ j _ => k - (intOf j).toNat)
  case atStart => exact ⟨0, by omega, by first | trivial | rfl, Row.nil _ _, Below.refl _ _⟩
  case round =>
    obtain ⟨c, hc, rfl, hrw, hbe⟩ := hrel
    by_cases hlt : c < k
    · have hc1 : (c : Int) < (k : Int) := by omega
      obtain ⟨b, off, rfl, hbl, hcl⟩ := (HLs.out.below hbe) (by omega)
      obtain ⟨oc, cc, e1, hz⟩ := hcl c hlt
      have hcc : c < cnt a n := by rw [HK.out]; exact hlt
      obtain ⟨hm1, hm2⟩ := memb_pos hcc
      obtain ⟨bl, ofs, rfl, hbl2, hcel⟩ := hz hm1
      have hof := Ps.of_okn n ⟨h1, h5⟩ (memb a n c) (by omega) bl ofs cc wr (fun i hi => by
        have h := hcel i hi
        dsimp only at h
        rw [List.getD_eq_getElem?_getD, List.getElem?_eq_getElem hi] at h
        exact h)
      rw [HOf.out c hcc] at hof
      have htk := cls_take hcc
      obtain ⟨m, hm⟩ : ∃ m, msf a n c = m := ⟨_, rfl⟩
      rw [hm] at hof htk
      obtain ⟨q, hq⟩ : ∃ q, (memb a n c).length = q := ⟨_, rfl⟩
      rw [hq] at e1 hof
      have HO := Lib.hid hof
      have HTk := Lib.hid htk
      obtain ⟨pm, hpm⟩ : ∃ pm, (nints ((cls a n).take c)).length = pm := ⟨_, rfl⟩
      have HRw := Lib.hid hrw
      have HBe := Lib.hid hbe
      have HPl := Lib.hid (show (nints ((cls a n).take c)).length ≤ 1000000 by
        rw [nints_len]
        have := List.length_take_le c (cls a n)
        omega)
      have HSz := Lib.hid hbe.size
      clear hrw hbe hbl hcl hz hbl2 hcel hof htk hm hq hm1 hm2 hcc hpm
      go_wp2_with fail
      refine HO.out.mono ?_
      rintro e w' ⟨rfl, rfl⟩
      go_wp2_with (at_builtin; refine app_int _ rfl _ _ rfl W1.heap.size _ _ rfl (HRw.out.alloc _) _ (m : Int) rfl (World.cell?_alloc_mark _ #[_] 3 (0, 0) 0) HPl.out (by have := HSz.out; simp; omega) ?_; intro gg cv2 w2 hr2 hbb2 hgg; have HR2 := Lib.hid hr2; have HBB := Lib.hid ((HBe.out.alloc HSz.out _).trans hbb2); clear hr2 hbb2)
      go_roundw
      case rel => exact ⟨c + 1, by omega, by go_num, by rw [HTk.out, nints_snoc]; exact HR2.out, HBB.out⟩
      case measure => simp [intOf]; omega
    · have e : c = k := by omega
      subst e
      have hall : (cls a n).take c = cls a n := List.take_of_length_le (by simp [cls, HK.out])
      rw [hall] at hrw
      have HRw := Lib.hid (row_le hrw HB1.out.size)
      have HF := Lib.hid (HB1.out.trans (hbe.mono HB1.out.size))
      clear hrw hbe hlt hall
      go_wp2_with fail
      exact bodyPost_ret (by simp [results, Try.results6, go_sem]) rfl ⟨_, rfl, HRw.out, HF.out⟩

end Go.Proofs.Ytokjdlljhloflaa
