/-
  What (*auto.places).end and (*auto.places).begin do.
-/
import Derived.Test.YtfbcijnacbfjpaaPla
namespace Go.Proofs.Ytfbcijnacbfjpaa
open Go.RowKit Go.Maps
set_option linter.unusedVariables false
set_option linter.unusedSimpArgs false
theorem frame_at {w : World} {g : Nat} {op : Int} {a : Option Addr} {m c : Nat} {x : Au.Nd} {t : TypeId} (h : w.heap[g]? = some (.cells (fmC op a m c x) t (0, 0))) (k : Nat) : w.cell? ⟨g, k, none⟩ = (fmC op a m c x)[k]? := cell_blk h
def zPt : Array Value := #[.bool false, .int .u64 0, .int .u64 0, .int .u64 0, .int .u64 0, .int .u64 0, .int .u64 0, .int .u64 0, .int .u64 0]
set_option maxRecDepth 100000 in
set_option maxHeartbeats 4000000 in
theorem end_link (g cl n : Nat) (b nx : Nat → Nat) (fs : Nat) (vL : Value) (em : Nat) (op : Int) (a : Option Addr) (m c : Nat) (x : Au.Nd) (w : World) (hP : Plb w g cl n b nx fs vL em) (hn : n ≤ 200) (hx : x.first < 2 ^ 256) (hop : op = 4 ∨ op = 5) :
    Calls Try.prog 57 #[.pointer (some ⟨g, 0, none⟩), fmV op a m c x] w fun e w' => e = .returned (ptV x) ∧ Plb w' g cl n b (chn nx x.last x.first n) fs vL em ∧ Only (· = g) w w' := by
  obtain ⟨xe, xf, xl⟩ := x
  have hlt := hP.lt
  have HP : Hid (Plb w g cl n b nx fs vL em) := hP
  clear hP
  have HX : Hid (xf < 2 ^ 256) := hx
  clear hx
  have B0 : Hid (((w.alloc (.cells (fmC op a m c ⟨xe, xf, xl⟩) 136)).alloc (.cells zPt 109)).heap[w.heap.size]? = some (.cells (fmC op a m c ⟨xe, xf, xl⟩) 136 (0, 0))) := (Below.heap_alloc _ _ _ (by simp)).trans (heap_alloc_new _ _)
  have B1 : Hid (((w.alloc (.cells (fmC op a m c ⟨xe, xf, xl⟩) 136)).alloc (.cells zPt 109)).heap[w.heap.size + 1]? = some (.cells zPt 109 (0, 0))) := heap_alloc2_new _ _ _
  have O0 : Hid (Only (fun _ => False) w ((w.alloc (.cells (fmC op a m c ⟨xe, xf, xl⟩) 136)).alloc (.cells zPt 109))) := ((Only.refl _ _).alloc _).alloc _
  unfold fmV fmC
  rcases hop with rfl | rfl
  all_goals
    go_enter Try.func57, Try.ntmps57
    go_wp2_with (first | (go_at_call 74; refine (chain_any g cl n b nx fs vL em xl xf _ (HP.out.only O0.out (fun h => h)) hn HX.out).mono ?_; rintro e w1 ⟨rfl, hp1, ho1⟩; have HP1 : Hid (Plb w1 g cl n b (chn nx xl xf n) fs vL em) := hp1; have HO1 : Hid (Only (· = g) w w1) := (O0.out.mono (fun _ h => h.elim)).trans ho1; have r0 := (ho1.block _ (Array.getElem?_eq_some_iff.1 B0.out).1 (by omega)).trans B0.out; have r1 := (ho1.block _ (Array.getElem?_eq_some_iff.1 B1.out).1 (by omega)).trans B1.out; have R1 : Hid (w1.heap[w.heap.size + 1]? = some (.cells zPt 109 (0, 0))) := r1; have d2 := frame_at r0 2; have d3 := frame_at r0 3; have d4 := frame_at r0 4; have d5 := frame_at r0 5; have d6 := frame_at r0 6; have d7 := frame_at r0 7; have d8 := frame_at r0 8; have d9 := frame_at r0 9; have d10 := frame_at r0 10; simp only [fmC, List.getElem?_toArray, List.getElem?_cons_succ, List.getElem?_cons_zero] at d2 d3 d4 d5 d6 d7 d8 d9 d10; clear r0 r1 hp1 ho1) | refine wpList_store_rowTo rfl 109 _ _ rfl rfl (w.heap.size + 1) (ptC ⟨xe, xf, xl⟩) rfl rfl 109 _ R1.out sz109 rfl (ptC_one _) ?_)
    refine bodyPost_ret (v := ptV ⟨xe, xf, xl⟩) (results_cell_row rfl _ _ (w.heap.size + 1) 109 (ptC ⟨xe, xf, xl⟩) (0, 0) _ rfl (heap_setRow _ _ _ _ _ _ R1.out) Try.underlying109 rfl sz109) rfl ⟨rfl, ?_, ?_⟩
    · exact (setRow_other _ _ (by omega)).trans HP1.out
    · exact Only.old (P := fun h => h = g ∨ w.heap.size ≤ h) ((HO1.out.mono (fun _ h => Or.inl h)).setRow (Or.inr (by omega)) _) (fun _ h => h.symm)
set_option maxRecDepth 100000 in
set_option maxHeartbeats 4000000 in
theorem end_plain (g : Nat) (op : Int) (a : Option Addr) (m c : Nat) (x : Au.Nd) (w : World) (h4 : op ≠ 4) (h5 : op ≠ 5) :
    Calls Try.prog 57 #[.pointer (some ⟨g, 0, none⟩), fmV op a m c x] w fun e w' => e = .returned (ptV x) ∧ Only (fun _ => False) w w' := by
  obtain ⟨xe, xf, xl⟩ := x
  have q4 : (op == 4) = false := by simpa using h4
  have q5 : (op == 5) = false := by simpa using h5
  clear h4 h5
  unfold fmV fmC
  go_enter Try.func57, Try.ntmps57
  go_wp2_with fail
  refine bodyPost_ret (v := ptV ⟨xe, xf, xl⟩) (by simp [results, Try.results57, go_sem, ptV, ptC]) rfl ⟨rfl, ?_⟩
  exact ((Only.refl _ _).alloc _).alloc _
end Go.Proofs.Ytfbcijnacbfjpaa
