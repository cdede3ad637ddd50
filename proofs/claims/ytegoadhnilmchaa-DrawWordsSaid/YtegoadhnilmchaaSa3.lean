/-
  The document's Columns; Trim, and the document's.
-/
import Derived.Test.YtegoadhnilmchaaSa2
namespace Go.Proofs.Ytegoadhnilmchaa
open Go.RowKit Go.Maps
set_option linter.unusedVariables false
set_option linter.unusedSimpArgs false
theorem box21 (w : World) (v0 v1 v : Value) (t t' : TypeId) : ∃ R b w1, (w.alloc (.cells #[v0, v1] t)).alloc (.cells #[v] t') = w1 ∧ w.heap.size + 1 = b ∧ w.heap.size = R ∧ Hid (w1.heap[R]? = some (.cells #[v0, v1] t (0, 0)) ∧ Only (fun _ => False) w w1 ∧ w1.ownsRow b t' 1 (.slice (some ⟨b, 0, none⟩) 1 1) 1 [v] ∧ w.heap.size ≤ b) ∧ R < b ∧ b < w1.heap.size := by
  refine ⟨_, _, _, rfl, rfl, rfl, ⟨bx_made w _ _, ((Only.refl _ _).alloc _).alloc _, ⟨rfl, Or.inr ⟨w.heap.size + 1, 1, #[v], rfl, Nat.le_refl _, heap_alloc2_new w _ _, Nat.le_refl _, by unfold maxLen; omega, rfl, rfl⟩⟩, Nat.le_succ _⟩, Nat.lt_succ_self _, (Array.getElem?_eq_some_iff.1 (heap_alloc2_new w _ _)).1⟩
set_option maxRecDepth 100000 in
set_option maxHeartbeats 4000000 in
theorem refColumns_any (C : List Ct) (O : List Nat) (n m : Nat) (aC aO : Option Addr) (cC cO x y t : Nat) (w : World) (hP : Pv w C O n m aC aO cC cO) (hx : x ≤ y) (hy : y ≤ n) (h0 : 0 < t) (ht : t ≤ 1000) :
    Calls Try.prog 17 #[.agg #[.slice aC n cC, .slice aO m cO], .int .i64 (x : Int), .int .i64 (y : Int), .int .i64 (t : Int)] w (nlP (Sp.cols C t x (y - x)) w) := by
  obtain ⟨i3, g3, g30, g31, g32⟩ := info_parts info3
  have HP : Hid (Pv w C O n m aC aO cC cO) := hP
  have h1 := hP.few
  have HC : Hid (∀ i, i ≤ n → Sp.col C t x i ≤ 100200000) := fun i hi => col_small HP.out.ok h0 ht (by omega)
  clear hP
  go_enter Try.func17, Try.ntmps17
  go_wp2_with fail
  obtain ⟨R, b, w1, hw1, hb, hR, H1, lRb, lb1⟩ := box21 w (.slice aC n cC) (.slice aO m cO) (.int .i64 0) 31 3
  rw [hw1, hb, hR]
  clear hw1 hb hR
  go_loopg [9, 10, 11] (y - x) (fun gh v9 v10 v11 wr => ∃ (i q k1 : Nat) (a : Option Addr) (c : Nat) (W : World), W = wr ∧ gh = y - i ∧ x ≤ i ∧ i ≤ y ∧ v9 = .int .i64 (q : Int) ∧ v10 = .slice a k1 c ∧ v11 = .int .i64 (i : Int) ∧ k1 = i - x + 1 ∧ q = Sp.col C t x (i - x) ∧ W.ownsRow b 3 1 (.slice a k1 c) k1 (natI (Sp.cols C t x (i - x))) ∧ Only (fun g => b ≤ g) w1 W)
  case atStart => exact ⟨x, 0, 1, some ⟨b, 0, none⟩, 1, _, rfl, rfl, Nat.le_refl _, hx, rfl, rfl, rfl, by omega, by rw [Nat.sub_self]; rfl, by rw [Nat.sub_self]; exact H1.out.2.2.1, Only.refl _ _⟩
  case round =>
    obtain ⟨i, q, k1, a, c, W, hW, rfl, hi, hi2, rfl, rfl, rfl, hk1, hq, hown, hoW⟩ := hrel
    subst hW
    have HG : Hid (W.ownsRow b 3 1 (.slice a k1 c) k1 (natI (Sp.cols C t x (i - x))) ∧ Only (fun g => b ≤ g) w1 W ∧ q = Sp.col C t x (i - x) ∧ Only (fun _ => False) w W ∧ k1 = i - x + 1) := ⟨hown, hoW, hq, ((H1.out.2.1.mono (fun _ h => h.elim)).trans hoW).old (fun g hg => Or.inl (Nat.le_trans H1.out.2.2.2 hg)), hk1⟩
    have hk2 : k1 ≤ 100001 := by omega
    have hbW : b < W.heap.size := Nat.lt_of_lt_of_le lb1 hoW.size
    have hbR : W.heap[R]? = some (.cells #[.slice aC n cC, .slice aO m cO] 31 (0, 0)) := (hoW.block R (Array.getElem?_eq_some_iff.1 H1.out.1).1 (by omega)).trans H1.out.1
    obtain ⟨r0, r1, lR⟩ := blk_two hbR
    have hq1 : q ≤ 100200000 := by rw [hq]; exact HC.out _ (by omega)
    clear hown hoW hq hk1 hbR r1
    by_cases hlt : i < y
    · have t1 : (i : Int) < (y : Int) := by omega
      have t2 : (i : Int) < (n : Int) := by omega
      obtain ⟨z, hz⟩ : ∃ z, C[i]? = some z := ⟨_, List.getElem?_eq_getElem (by rw [← HP.out.hn]; omega)⟩
      obtain ⟨xp, xl, xc, xk, rfl, hxc, hxk⟩ := HP.out.ok.nat hz
      obtain ⟨g, off, rfl, hg, c0, c1, c2, c3⟩ := (HP.out.vC.keep HG.out.2.2.2.1).cluster (k := i) hz
      simp only at c0 c1 c2 c3
      obtain ⟨j, hj⟩ : ∃ j, i = x + j := ⟨i - x, by omega⟩
      have HQ : Hid (Sp.nx ⟨xp, xl, (xc : Int), xk⟩ t q = Sp.col C t x (i + 1 - x) ∧ Sp.cols C t x (i + 1 - x) = Sp.cols C t x (i - x) ++ [Sp.col C t x (i + 1 - x)]) := by
        rw [HG.out.2.2.1, hj, show x + j - x = j by omega, show x + j + 1 - x = j + 1 by omega]
        refine ⟨?_, Sp.cols_succ C t x j⟩
        show _ = Sp.nx (Sp.at' C (x + j)) t (Sp.col C t x j)
        rw [← hj, at_some hz]
      clear hz hj
      go_wp2_with fail
      refine Calls.mono (refNext_any xp xl xc xk q t _ hxc hxk (by omega) h0 ht) ?_
      rintro e w2 ⟨rfl, ho2⟩
      obtain ⟨q2, hq2⟩ : ∃ q2, q2 = Sp.nx ⟨xp, xl, (xc : Int), xk⟩ t q := ⟨_, rfl⟩
      rw [← hq2] at HQ ⊢
      have H2 : Hid (Only (fun _ => False) W w2 ∧ w2.ownsRow b 3 1 (.slice a k1 c) k1 (natI (Sp.cols C t x (i - x)))) := ⟨ho2, own_only HG.out.1 ho2 (fun _ _ h => h)⟩
      have HVA : Hid _ := blk1 w2 (.cells #[.int .i64 (q2 : Int)] 3)
      clear ho2 hq2 c0 c1 c2 c3 r0
      go_wp2_with (at_builtin; (refine wpList_append_lies _ rfl _ _ 58 rfl b 3 i3 (.int .i64 0) 1 8 Try.underlying58 g3 g30 g31 g32 rfl (by decide) (.slice a k1 c) k1 (natI (Sp.cols C t x (i - x))) rfl (H2.out.2.alloc _) ⟨w2.heap.size, 0, none⟩ 1 1 [.int .i64 (q2 : Int)] rfl rfl (World.news_of_block (cs := #[.int .i64 (q2 : Int)]) HVA.out.1) (fun u hu => by simp at hu; rcases hu with rfl; rfl) (by decide) (by unfold maxLen; omega) (by omega) (by rw [HVA.out.2]; have := H2.out.1.size; omega) (w2.heap.size + 1) HVA.out.2 ?_; intro g5 cap5 w5 hown5 hgrow5 hat5 hlt5; have hoo : Only (fun g => (Value.slice a k1 c).ownBlock = some g) w2 w5 := (((Only.refl (fun g => (Value.slice a k1 c).ownBlock = some g) w2).alloc _)).grown hgrow5 (fun k hk => hk); have H5 : Hid (w5.ownsRow b 3 1 (.slice (some ⟨g5, 0, none⟩) (k1 + 1) cap5) (k1 + 1) (natI (Sp.cols C t x (i + 1 - x))) ∧ Only (fun g => b ≤ g) w1 w5) := ⟨by rw [HQ.out.2, natI_snoc, ← HQ.out.1]; exact hown5, HG.out.2.1.trans ((H2.out.1.mono (fun _ h => h.elim)).trans (hoo.mono (fun g hg => (own_own H2.out.2 hg).1)))⟩; clear hown5 hgrow5 hat5 hoo))
      go_roundg (y - (i + 1))
      case measure => omega
      case rel => exact ⟨i + 1, q2, k1 + 1, _, _, _, rfl, rfl, by omega, by omega, rfl, rfl, by go_num, by have := HG.out.2.2.2.2; omega, HQ.out.1, H5.out.1, H5.out.2⟩
    · have t1 : decide ((i : Int) < (y : Int)) = false := decide_eq_false (by omega)
      have hin : i = y := by omega
      subst hin
      go_wp2_with fail
      go_ret
      have e : (Sp.cols C t x (i - x)).length = k1 := by rw [Sp.cols_len, HG.out.2.2.2.2]
      refine ⟨a, c, by rw [e]; rfl, ?_, HG.out.2.2.2.1⟩
      rw [e]
      exact own_base2 HG.out.1 H1.out.2.2.2
end Go.Proofs.Ytegoadhnilmchaa

