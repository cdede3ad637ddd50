/-
  Awake: the chapter's example.
-/
import Derived.Test.YtelifjeppegcmaaGm
namespace Go.Proofs.Ytelifjeppegcmaa
open Go.RowKit Go.Maps
set_option linter.unusedVariables false
set_option linter.unusedSimpArgs false
def nxA (s c : Nat) : Nat := if s = 1 then 2 else 1
def oA (s : Nat) : Nat := if s = 0 then 0 else 1
theorem eqvA : Hm.Eqv 1 nxA oA 1 2 := by
  have key : ∀ (w : List Nat) (s t : Nat), s ≠ 0 → t ≠ 0 → oA (w.foldl nxA s) = oA (w.foldl nxA t) := by
    intro w
    induction w with
    | nil =>
      intro s t hs ht
      show oA s = oA t
      unfold oA
      rw [if_neg hs, if_neg ht]
    | cons c w ih =>
      intro s t hs ht
      exact ih _ _ (by unfold nxA; split <;> omega) (by unfold nxA; split <;> omega)
  exact fun w hw => key w 1 2 (by decide) (by decide)
theorem lstA : Hm.Lst 3 1 nxA oA [[1], [1]] [0, 1] [0, 1] := by
  have two : ∀ (i s : Nat), ([0, 1] : List Nat)[i]? = some s → i = s ∧ s < 2 := by
    intro i s hs
    have hi := (List.getElem?_eq_some_iff.1 hs).1
    simp at hi
    have : i = 0 ∨ i = 1 := by omega
    rcases this with rfl | rfl
    · injection hs with hs; omega
    · injection hs with hs; omega
  refine ⟨rfl, rfl, rfl, fun i s hs => ?_, fun i s hs => ?_, fun i j s t hs ht he => ?_, ?_⟩
  · obtain ⟨rfl, h2⟩ := two i s hs
    have : i = 0 ∨ i = 1 := by omega
    rcases this with rfl | rfl
    · exact ⟨by omega, rfl⟩
    · exact ⟨by omega, rfl⟩
  · obtain ⟨rfl, h2⟩ := two i s hs
    have hrow : ([[1], [1]] : List (List Nat))[i]? = some [1] := by
      have : i = 0 ∨ i = 1 := by omega
      rcases this with rfl | rfl <;> rfl
    refine ⟨[1], hrow, rfl, fun c j hj => ?_⟩
    have hc := (List.getElem?_eq_some_iff.1 hj).1
    obtain rfl : c = 0 := by simpa using hc
    injection hj with hj
    subst hj
    refine ⟨1, rfl, ?_⟩
    have : i = 0 ∨ i = 1 := by omega
    rcases this with rfl | rfl
    · exact Hm.Eqx.refl _
    · exact eqvA
  · obtain ⟨rfl, h2⟩ := two i s hs
    obtain ⟨rfl, h3⟩ := two j t ht
    have ho := he.out
    unfold oA at ho
    by_cases h0 : i = 0 <;> by_cases h1 : j = 0
    · omega
    · rw [if_pos h0, if_neg h1] at ho; omega
    · rw [if_neg h0, if_pos h1] at ho; omega
    · omega
  · show Hm.OrdRows [[1], [1]] 0 1 2
    unfold Hm.OrdRows
    refine ⟨by omega, 2, ?_, ?_⟩
    · unfold Hm.Ord
      exact Or.inr ⟨rfl, by unfold Hm.Ord; rfl⟩
    · unfold Hm.OrdRows
      refine ⟨by omega, 2, ?_, by unfold Hm.OrdRows; exact ⟨rfl, rfl⟩⟩
      unfold Hm.Ord
      exact Or.inl ⟨by omega, by unfold Hm.Ord; rfl⟩
/-- the example's automaton, in memory. -/
theorem nxt_A {W : World} {b : Nat} (h0 : W.heap[b]? = some (.cells #[.int .i64 1] 3 (0, 0))) (h1 : W.heap[b + 1]? = some (.cells #[.int .i64 2] 3 (0, 0))) (h2 : W.heap[b + 1 + 1]? = some (.cells #[.int .i64 1] 3 (0, 0)))
    (h3 : W.heap[b + 1 + 1 + 1]? = some (.cells #[.slice (some ⟨b, 0, none⟩) 1 1, .slice (some ⟨b + 1, 0, none⟩) 1 1, .slice (some ⟨b + 1 + 1, 0, none⟩) 1 1] 23 (0, 0))) : Nxt W 3 1 (b + 1 + 1 + 1) 0 nxA := by
  intro s hs
  have : s = 0 ∨ s = 1 ∨ s = 2 := by omega
  rcases this with rfl | rfl | rfl
  · refine ⟨_, _, cell_blk h3, fun k hk => ?_⟩
    obtain rfl : k = 0 := by omega
    exact ⟨_, _, rfl, cell_blk h0, by unfold nxA; decide⟩
  · refine ⟨_, _, cell_blk h3, fun k hk => ?_⟩
    obtain rfl : k = 0 := by omega
    exact ⟨_, _, rfl, cell_blk h1, by unfold nxA; decide⟩
  · refine ⟨_, _, cell_blk h3, fun k hk => ?_⟩
    obtain rfl : k = 0 := by omega
    exact ⟨_, _, rfl, cell_blk h2, by unfold nxA; decide⟩
theorem ra_two {W : World} {lo : Nat} {v : Value} (h : Ra W lo v [[1], [1]] [0, 1]) : ∃ g cg b0 k0 b1 k1 bo ko, v = .agg #[.slice (some ⟨g, 0, none⟩) 2 cg, .slice (some ⟨bo, 0, none⟩) 2 ko] ∧ W.cell? ⟨g, 0, none⟩ = some (.slice (some ⟨b0, 0, none⟩) 1 k0) ∧ W.cell? ⟨g, 1, none⟩ = some (.slice (some ⟨b1, 0, none⟩) 1 k1) ∧ W.cell? ⟨b0, 0, none⟩ = some (.int .i64 1) ∧ W.cell? ⟨b1, 0, none⟩ = some (.int .i64 1) := by
  obtain ⟨vX, vO, rws, rfl, h2, h3, h4, h5⟩ := h
  simp at h2
  match rws, h2 with
  | [r0, r1], _ =>
    obtain ⟨g, cg, e1, _, _, _, hc⟩ := row_form h3 (by simp)
    obtain ⟨bo, ko, e2, _⟩ := row_form h5 (by decide)
    obtain ⟨b0, k0, e3, _, _, _, hc0⟩ := row_form (h4 0 r0 [1] rfl rfl) (by decide)
    obtain ⟨b1, k1, e4, _, _, _, hc1⟩ := row_form (h4 1 r1 [1] rfl rfl) (by decide)
    refine ⟨g, cg, b0, k0, b1, k1, bo, ko, by rw [e1, e2]; rfl, ?_, ?_, ?_, ?_⟩
    · rw [hc 0 (by simp)]; show some r0 = _; rw [e3]; rfl
    · rw [hc 1 (by simp)]; show some r1 = _; rw [e4]; rfl
    · rw [hc0 0 (by decide)]; rfl
    · rw [hc1 0 (by decide)]; rfl
def W5 (w : World) : World := ((((w.alloc (.cells #[.int .i64 1] 3)).alloc (.cells #[.int .i64 2] 3)).alloc (.cells #[.int .i64 1] 3)).alloc (.cells #[.slice (some ⟨w.heap.size, 0, none⟩) 1 1, .slice (some ⟨w.heap.size + 1, 0, none⟩) 1 1, .slice (some ⟨w.heap.size + 1 + 1, 0, none⟩) 1 1] 23)).alloc (.cells #[.int .u32 0, .int .u32 1, .int .u32 1] 38)
theorem W5_at (w : World) : (W5 w).heap[w.heap.size]? = some (.cells #[.int .i64 1] 3 (0, 0)) ∧ (W5 w).heap[w.heap.size + 1]? = some (.cells #[.int .i64 2] 3 (0, 0)) ∧ (W5 w).heap[w.heap.size + 1 + 1]? = some (.cells #[.int .i64 1] 3 (0, 0)) ∧ (W5 w).heap[w.heap.size + 1 + 1 + 1]? = some (.cells #[.slice (some ⟨w.heap.size, 0, none⟩) 1 1, .slice (some ⟨w.heap.size + 1, 0, none⟩) 1 1, .slice (some ⟨w.heap.size + 1 + 1, 0, none⟩) 1 1] 23 (0, 0)) ∧ (W5 w).heap[w.heap.size + 1 + 1 + 1 + 1]? = some (.cells #[.int .u32 0, .int .u32 1, .int .u32 1] 38 (0, 0)) ∧ Only (fun _ => False) w (W5 w) := by
  have st : ∀ (V : World) (o : Obj) (b : Nat) (p : Obj), V.heap[b]? = some p → (V.alloc o).heap[b]? = some p := fun V o b p h => (Below.heap_alloc _ _ _ (Array.getElem?_eq_some_iff.1 h).1).trans h
  have nw : ∀ (V : World) (o : Obj) (b : Nat), V.heap.size = b → (V.alloc o).heap[b]? = some o := fun V o b h => by rw [← h]; exact heap_alloc_new V o
  unfold W5
  refine ⟨st _ _ _ _ (st _ _ _ _ (st _ _ _ _ (st _ _ _ _ (nw _ _ _ rfl)))), st _ _ _ _ (st _ _ _ _ (st _ _ _ _ (nw _ _ _ (by simp)))), st _ _ _ _ (st _ _ _ _ (nw _ _ _ (by simp))), st _ _ _ _ (nw _ _ _ (by simp)), nw _ _ _ (by simp), ((((((Only.refl _ _).alloc _).alloc _).alloc _).alloc _).alloc _)⟩
set_option maxRecDepth 100000 in
set_option maxHeartbeats 4000000 in
theorem awake_any (w : World) : Calls Try.prog 8 #[] w fun e w' => e = .returned (.bool true) ∧ Only (fun _ => False) w w' := by
  obtain ⟨a0, a1, a2, a3, a4, a5⟩ := W5_at w
  have HC : Hid (Calls Try.prog 12 #[.agg #[.slice (some ⟨w.heap.size + 1 + 1 + 1, 0, none⟩) 3 3, .slice (some ⟨w.heap.size + 1 + 1 + 1 + 1, 0, none⟩) 3 3]] (W5 w) (mkP 3 1 nxA oA (W5 w))) := make_any 3 1 _ 0 3 _ 0 3 nxA oA (W5 w) (by decide) (by decide) (by decide) (nxt_A a0 a1 a2 a3) (fun s hs => by
    have : s = 0 ∨ s = 1 ∨ s = 2 := by omega
    rcases this with rfl | rfl | rfl <;> exact cell_blk a4)
  have HA5 : Hid (Only (fun _ => False) w (W5 w)) := a5
  clear a0 a1 a2 a3 a4 a5
  go_enter Try.func8, Try.ntmps8
  go_wp2_with fail
  refine Calls.mono HC.out ?_
  rintro e w1 ⟨v, rows, outs, r, rfl, hRa, hL, ho1⟩
  obtain ⟨rfl, rfl⟩ := Hm.lst_one hL lstA (Hm.Eqx.refl 0)
  obtain ⟨g, cg, b0, k0, b1, k1, bo, ko, rfl, c0, c1, c2, c3⟩ := ra_two hRa
  have HO1 : Hid (Only (fun _ => False) w w1) := HA5.out.trans ho1
  have l0 := World.block_lt_of_cell? w1 _ c0
  have l2 := World.block_lt_of_cell? w1 _ c2
  have l3 := World.block_lt_of_cell? w1 _ c3
  have HK : Hid (∀ W, Only (fun _ => False) w1 W → W.cell? ⟨g, 0, none⟩ = some (.slice (some ⟨b0, 0, none⟩) 1 k0) ∧ W.cell? ⟨g, 1, none⟩ = some (.slice (some ⟨b1, 0, none⟩) 1 k1) ∧ W.cell? ⟨b0, 0, none⟩ = some (.int .i64 1) ∧ W.cell? ⟨b1, 0, none⟩ = some (.int .i64 1)) := fun W ho => ⟨keepC ho c0, keepC ho c1, keepC ho c2, keepC ho c3⟩
  clear hRa hL ho1 HC HA5
  go_wp2_with (go_at_call 12; refine (make_bad none none 0 0 0 0 _ (fun W _ => check_none none none 0 0 0 W)).mono ?_; rintro e w2 ⟨rfl, ho2⟩; have HO2 : Hid (Only (fun _ => False) w w2) := (HO1.out.alloc _).trans ho2; have o12 : Only (fun _ => False) w1 w2 := ((Only.refl (fun _ => False) w1).alloc _).trans ho2; obtain ⟨d0, d1, d2, d3⟩ := HK.out w2 o12; have hb : w2.heap[w1.heap.size]? = some (.cells #[.slice (some ⟨g, 0, none⟩) 2 cg, .slice (some ⟨bo, 0, none⟩) 2 ko] 27 (0, 0)) := (ho2.block _ (by simp) (fun h => h)).trans (heap_alloc_new w1 _); have d4 : w2.cell? ⟨w1.heap.size, 0, none⟩ = some (.slice (some ⟨g, 0, none⟩) 2 cg) := cell_blk hb; have d5 : w2.cell? ⟨w1.heap.size, 1, none⟩ = some (.slice (some ⟨bo, 0, none⟩) 2 ko) := cell_blk hb; have m0 := World.block_lt_of_cell? w2 _ d0; have m2 := World.block_lt_of_cell? w2 _ d2; have m3 := World.block_lt_of_cell? w2 _ d3; have m4 : w1.heap.size < w2.heap.size := World.block_lt_of_cell? w2 _ d4; clear ho2 o12 hb)
  go_ret
  exact ⟨rfl, HO2.out.alloc _⟩
end Go.Proofs.Ytelifjeppegcmaa
