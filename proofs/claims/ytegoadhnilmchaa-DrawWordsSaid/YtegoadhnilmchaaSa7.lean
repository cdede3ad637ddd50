/-
  Make, and the document's Line.
-/
import Derived.Test.YtegoadhnilmchaaSa6
namespace Go.Proofs.Ytegoadhnilmchaa
open Go.RowKit Go.Maps
set_option linter.unusedVariables false
set_option linter.unusedSimpArgs false
theorem box24 (w : World) (v0 v1 u0 u1 u2 u3 : Value) (t t' : TypeId) : ∃ R b w1, (w.alloc (.cells #[v0, v1] t)).alloc (.cells #[u0, u1, u2, u3] t') = w1 ∧ w.heap.size + 1 = b ∧ w.heap.size = R ∧ Hid (w1.heap[R]? = some (.cells #[v0, v1] t (0, 0)) ∧ w1.heap[b]? = some (.cells #[u0, u1, u2, u3] t' (0, 0)) ∧ Only (fun _ => False) w w1) ∧ R < b ∧ w.heap.size ≤ b :=
  ⟨_, _, _, rfl, rfl, rfl, ⟨bx_made w _ _, heap_alloc2_new w _ _, ((Only.refl _ _).alloc _).alloc _⟩, Nat.lt_succ_self _, Nat.le_succ _⟩
set_option maxRecDepth 100000 in
set_option maxHeartbeats 4000000 in
theorem refLine_any (C : List Ct) (O : List Nat) (n m : Nat) (aC aO : Option Addr) (cC cO x y t en : Nat) (w : World) (hP : Pv w C O n m aC aO cC cO) (hx : x ≤ y) (hy : y ≤ n) (h0 : 0 < t) (ht : t ≤ 1000) (he : en < 256) :
    Calls Try.prog 38 #[.agg #[.slice aC n cC, .slice aO m cO], .int .i64 (x : Int), .int .i64 (y : Int), .int .u8 (en : Int), .int .i64 (t : Int)] w fun e w' => e = .returned (.agg #[.int .i64 (x : Int), .int .i64 (y : Int), .int .i64 (Sp.cel C t x (y - x) en : Int), .int .u8 (en : Int)]) ∧ Only (fun _ => False) w w' := by
  obtain ⟨rs, hrs⟩ : ∃ rs, rs = Sp.cel C t x (y - x) en := ⟨_, rfl⟩
  have HT : Hid (∀ W, Only (fun _ => False) w W → Calls Try.prog 26 #[.agg #[.slice aC n cC, .slice aO m cO], .int .i64 (x : Int), .int .i64 (y : Int), .int .u8 (en : Int), .int .i64 (t : Int)] W fun e w' => e = .returned (.int .i64 (rs : Int)) ∧ Only (fun _ => False) W w') := fun W ho => by rw [hrs]; exact refCells_any C O n m aC aO cC cO x y t en W (hP.keep ho) hx hy h0 ht he
  have h1 := hP.few
  rw [← hrs]
  clear hP hrs
  go_enter Try.func38, Try.ntmps38
  go_wp2_with fail
  obtain ⟨R, b, w1, hw1, hb, hR, H1, lRb, lb1⟩ := box24 w (.slice aC n cC) (.slice aO m cO) (.int .i64 0) (.int .i64 0) (.int .i64 0) (.int .u8 0) 31 43
  rw [hw1, hb, hR]
  clear hw1 hb hR
  refine Calls.mono (HT.out _ H1.out.2.2) ?_
  rintro e w2 ⟨rfl, ho2⟩
  have hb2 := blk_keep ho2 H1.out.2.1
  obtain ⟨c0, c1, c2, c3⟩ := blk_four hb2
  have f2 : ∀ k, w2.frozen? ⟨b, k, none⟩ = false := fun k => fz_blk hb2 k
  have l2 : b < w2.heap.size := (Array.getElem?_eq_some_iff.1 hb2).1
  have H2 : Hid (w2.heap[b]? = some (.cells #[.int .i64 0, .int .i64 0, .int .i64 0, .int .u8 0] 43 (0, 0)) ∧ Only (fun _ => False) w w2 ∧ w.heap.size ≤ b) := ⟨hb2, H1.out.2.2.trans ho2, by omega⟩
  clear hb2 ho2
  go_wp2_with fail
  refine bodyPost_ret (v := .agg #[.int .i64 (x : Int), .int .i64 (y : Int), .int .i64 (rs : Int), .int .u8 (en : Int)]) (results_cell_row rfl _ _ b 43 #[.int .i64 (x : Int), .int .i64 (y : Int), .int .i64 (rs : Int), .int .u8 (en : Int)] (0, 0) _ rfl (heap_setCell_at (k := 3) (heap_setCell_at (k := 2) (heap_setCell_at (k := 1) (heap_setCell_at (k := 0) H2.out.1 _) _) _) _) Try.underlying43 rfl (by kernel_rfl)) rfl ⟨rfl, ?_⟩
  exact (((H2.out.2.1.setNew (p := ⟨b, 0, none⟩) H2.out.2.2 _).setNew (p := ⟨b, 1, none⟩) H2.out.2.2 _).setNew (p := ⟨b, 2, none⟩) H2.out.2.2 _).setNew (p := ⟨b, 3, none⟩) H2.out.2.2 _
end Go.Proofs.Ytegoadhnilmchaa

