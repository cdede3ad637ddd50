/-
  (*groups).part, (group).size, (*groups).states.
-/
import Derived.Test.YtelifjeppegcmaaCb
namespace Go.Proofs.Ytelifjeppegcmaa
open Go.RowKit Go.Maps
set_option linter.unusedVariables false
set_option linter.unusedSimpArgs false
theorem al_mid (w : World) (o p q : Obj) : (((w.alloc o).alloc p).alloc q).drew.heap[w.heap.size + 1]? = some p := by
  have h1 := heap_alloc_new (w.alloc o) p
  rw [show (w.alloc o).heap.size = w.heap.size + 1 by simp] at h1
  exact (Below.heap_alloc ((w.alloc o).alloc p) q _ (by simp)).trans h1
theorem al_last (w : World) (o p q : Obj) : (((w.alloc o).alloc p).alloc q).drew.heap[w.heap.size + 1 + 1]? = some q := by
  have h1 := heap_alloc_new ((w.alloc o).alloc p) q
  rw [show ((w.alloc o).alloc p).heap.size = w.heap.size + 1 + 1 by simp] at h1
  exact h1
def gv (f t d : Nat) : Value := .agg #[.int .i64 (f : Int), .int .i64 (t : Int), .int .i64 (d : Int)]
set_option maxRecDepth 100000 in
theorem size_any (f t d r : Nat) (w : World) (h : t = f + r) (h1 : t ≤ 1000000) : Calls Try.prog 45 #[.agg #[.int .i64 (f : Int), .int .i64 (t : Int), .int .i64 (d : Int)]] w fun e w' => e = .returned (.int .i64 (r : Int)) ∧ w' = w.alloc (.cells #[.int .i64 (f : Int), .int .i64 (t : Int), .int .i64 (d : Int)] 62) := by
  have e1 : (t : Int) - (f : Int) = (r : Int) := by omega
  have hr : r ≤ 1000000 := by omega
  clear h
  go_enter Try.func45, Try.ntmps45
  go_wp2_with fail
  go_ret
  exact ⟨rfl, rfl⟩
set_option maxRecDepth 100000 in
theorem size0_any (f t r : Nat) (w : World) (h : t = f + r) (h1 : t ≤ 1000000) : Calls Try.prog 45 #[.agg #[.int .i64 (f : Int), .int .i64 (t : Int), .int .i64 0]] w fun e w' => e = .returned (.int .i64 (r : Int)) ∧ w' = w.alloc (.cells #[.int .i64 (f : Int), .int .i64 (t : Int), .int .i64 0] 62) := by
  have e1 : (t : Int) - (f : Int) = (r : Int) := by omega
  have hr : r ≤ 1000000 := by omega
  clear h
  go_enter Try.func45, Try.ntmps45
  go_wp2_with fail
  go_ret
  exact ⟨rfl, rfl⟩
theorem Ms.reads {w : World} {gb rb ab ob n base B1 lb cap i f t d : Nat} {row at' of : List Nat} {ls : List (Nat × Nat × Nat)} (h : Ms w gb rb ab ob n base B1 (.slice (some ⟨lb, 0, none⟩) ls.length cap) row at' of ls) (hl : ls[i]? = some (f, t, d)) : w.cell? ⟨gb, 3, none⟩ = some (.slice (some ⟨lb, 0, none⟩) ls.length cap) ∧ w.cell? ⟨lb, i * 3, none⟩ = some (.int .i64 (f : Int)) ∧ w.cell? ⟨lb, i * 3 + 1, none⟩ = some (.int .i64 (t : Int)) ∧ w.cell? ⟨lb, i * 3 + 2, none⟩ = some (.int .i64 (d : Int)) ∧ ∀ x, w.frozen? ⟨lb, x, none⟩ = false := by
  obtain ⟨lb', cap', hv, hlb1, hlb2, hcap, hcapm, hcell, cur, hcur⟩ := h.nl
  injection hv with hv1 hv2 hv3
  injection hv1 with hv1
  injection hv1 with hv1
  subst hv1
  obtain ⟨q0, q1, q2⟩ := gcs_at ls i f t d hl
  have hil := (List.getElem?_eq_some_iff.1 hl).1
  exact ⟨cell_blk h.G, (hcell _ (by omega)).trans q0, (hcell _ (by omega)).trans q1, (hcell _ (by omega)).trans q2, fun x => fz_blk hcur x⟩
end Go.Proofs.Ytelifjeppegcmaa
