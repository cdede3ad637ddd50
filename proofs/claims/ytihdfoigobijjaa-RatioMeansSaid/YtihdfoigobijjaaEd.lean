/-
  Layer 12: the numbers at their edges; Awake.
-/
import Derived.Test.YtihdfoigobijjaaMn
namespace Go.Proofs.Ytihdfoigobijjaa
open Go.RowKit Go.Maps
set_option linter.unusedVariables false
set_option linter.unusedSimpArgs false
def eL : List Nat := [9221120237041090561, 18442240474082181120, 18442240474082181119, 13970166044105375744, 13970166044103278592, 13970166044101181440, 13830554455654793216, 13826050856027422720, 9223372036854775809, 9223372036854775808, 0, 1, 4602678819172646912, 4607182418800017408, 4609434218613702656, 4612811918334230528, 4616911982862754295, 4616911982862754296, 4746794007242211328, 4746794007244308480, 4746794007248502784, 9218868437227405311, 9218868437227405312]
theorem eL_wds : Wds eL := by
  intro x hx
  have : eL.all (fun x => decide (x < 18446744073709551616)) = true := by decide
  exact of_decide_eq_true (List.all_eq_true.1 this x hx)
def edP (w : World) (e : Ending) (w' : World) : Prop := ∃ g, e = .returned (.slice (some ⟨g, 0, none⟩) 23 23) ∧ w'.ownsRow w.heap.size 22 1 (.slice (some ⟨g, 0, none⟩) 23 23) 23 (fls eL) ∧ Only (fun _ => False) w w'
theorem own_lit (w W : World) (h : w.heap.size ≤ W.heap.size) : (W.alloc (.cells (fls eL).toArray 22)).ownsRow w.heap.size 22 1 (.slice (some ⟨W.heap.size, 0, none⟩) 23 23) 23 (fls eL) := World.ownsRow_lit (base := w.heap.size) (e := 22) (size := 1) W (fls eL).toArray 23 h (by decide) (by decide)
set_option maxRecDepth 100000 in
set_option maxHeartbeats 2000000 in
theorem edges_any (w : World) : Calls Try.prog 12 #[] w (edP w) := by
  have H1 : Hid (∀ w, Calls Try.prog 19 #[] w fun e w' => e = .returned (.float .f64 9221120237041090561) ∧ w = w') := nan_any
  have H2 : Hid (∀ w, Calls Try.prog 20 #[.int .i64 (-1)] w fun e w' => e = .returned (.float .f64 18442240474082181120) ∧ w = w') := inf_neg
  have H3 : Hid (∀ w, Calls Try.prog 18 #[.float .f64 0, .float .f64 13830554455654793216] w fun e w' => e = .returned (.float .f64 9223372036854775808) ∧ ∃ n, w' = w.drewN n) := copysign_any
  have H4 : Hid (∀ w, Calls Try.prog 20 #[.int .i64 1] w fun e w' => e = .returned (.float .f64 Fl.inf) ∧ w = w') := inf_pos
  go_enter Try.func12, Try.ntmps12
  go_wp2_with fail
  refine Calls.mono (H1.out _) ?_
  rintro e w1 ⟨rfl, rfl⟩
  go_wp2_with fail
  refine Calls.mono (H2.out _) ?_
  rintro e w1 ⟨rfl, rfl⟩
  go_wp2_with fail
  refine Calls.mono (H3.out _) ?_
  rintro e w1 ⟨rfl, n, rfl⟩
  go_wp2_with fail
  refine Calls.mono (H4.out _) ?_
  rintro e w1 ⟨rfl, rfl⟩
  go_wp2_with fail
  go_ret
  exact ⟨_, rfl, own_lit w _ (Nat.le_refl _), ((Only.refl _ _).drewN _).alloc _⟩
theorem sm_num {r v : Nat} (h : Fl.Sm r v) (hv : Fl.nn v = false) : r = v := by
  rcases h with ⟨a, b⟩ | h
  · rw [hv] at b; cases b
  · exact h
theorem sm_nan {r v : Nat} (h : Fl.Sm r v) (hv : Fl.nn v = true) : Fl.nn r = true := by
  rcases h with ⟨a, b⟩ | h
  · exact a
  · rw [h]; exact hv
theorem of10 (w : World) : Calls Try.prog 11 #[.int .i64 1, .int .i64 0] w fun e w' => e = .returned (.float .f64 Fl.inf) ∧ Fl.Dr w w' := by
  refine (of_any 1 0 w).mono ?_
  rintro e w' ⟨r, rfl, _, hs, hd⟩
  have e1 : Fl.ofN 1 0 = Fl.inf := by decide +kernel
  rw [e1] at hs
  rw [sm_num hs (by decide)]
  exact ⟨rfl, hd⟩
theorem of00 (w : World) : Calls Try.prog 11 #[.int .i64 0, .int .i64 0] w fun e w' => ∃ r, e = .returned (.float .f64 r) ∧ r < 18446744073709551616 ∧ Fl.nn r = true ∧ Fl.Dr w w' := by
  refine (of_any 0 0 w).mono ?_
  rintro e w' ⟨r, rfl, hl, hs, hd⟩
  exact ⟨r, rfl, hl, sm_nan hs (by decide +kernel), hd⟩
theorem bad_at (x : Nat) (v : Int) (hx : x < 18446744073709551616) (h : Fl.bd x = v) (w : World) : Calls Try.prog 21 #[.float .f64 x] w fun e w' => e = .returned (.int .i64 v) ∧ w = w' := by
  rw [← h]; exact badness_any x hx w
theorem bd_nn {x : Nat} (h : Fl.nn x = true) : Fl.bd x = 0 := by unfold Fl.bd; rw [if_pos h]
theorem blend_at (w : World) : Calls Try.prog 26 #[.float .f64 4607182418800017408, .float .f64 Fl.inf, .float .f64 0] w fun e w' => e = .returned (.float .f64 4607182418800017408) ∧ Fl.Dr w w' := by
  refine (blend_any 4607182418800017408 Fl.inf 0 (by decide) (by decide) (by decide) w).mono ?_
  rintro e w' ⟨r, rfl, hl, hs, hd⟩
  have e1 : Fl.bl 4607182418800017408 Fl.inf 0 = 4607182418800017408 := by decide +kernel
  rw [e1] at hs
  rw [sm_num hs (by decide)]
  exact ⟨rfl, hd⟩
theorem mean_nil (w : World) : Calls Try.prog 28 #[.slice none 0 0] w fun e w' => ∃ r, e = .returned (.float .f64 r) ∧ r < 18446744073709551616 ∧ Fl.nn r = true ∧ Fl.Dr w w' := by
  refine (mean_any [] none 0 w (Vw.nil _ _) (fun x hx => by cases hx) (by decide)).mono ?_
  rintro e w' ⟨r, rfl, hl, hs, hd⟩
  exact ⟨r, rfl, hl, sm_nan hs (by decide +kernel), hd⟩
theorem oE1 : FloatKind.f64.format.order Fl.inf Fl.inf = some .eq := by decide +kernel
theorem oE2 : FloatKind.f64.format.order 4607182418800017408 4607182418800017408 = some .eq := by decide +kernel
theorem b1 : Fl.bd Fl.inf = 10000 := by decide +kernel
theorem b2 : Fl.bd 4602678819172646912 = 12 := by decide +kernel
theorem b3 : Fl.bd 13830554455654793216 = 100 := by decide +kernel
theorem r1 : Fl.rn 4612811918334230528 = 2 := by decide +kernel
theorem o1 : Fl.od 9223372036854775808 0 = -1 := by decide +kernel
set_option maxRecDepth 100000 in
set_option maxHeartbeats 2000000 in
theorem awake_any (w : World) : Calls Try.prog 10 #[] w fun e w' => e = .returned (.bool true) ∧ Fl.Dr w w' := by
  have H4 : Hid (∀ w, Calls Try.prog 20 #[.int .i64 1] w fun e w' => e = .returned (.float .f64 Fl.inf) ∧ w = w') := inf_pos
  have A1 : Hid (∀ w, Calls Try.prog 11 #[.int .i64 1, .int .i64 0] w fun e w' => e = .returned (.float .f64 Fl.inf) ∧ Fl.Dr w w') := of10
  have A2 : Hid (∀ w, Calls Try.prog 21 #[.float .f64 Fl.inf] w fun e w' => e = .returned (.int .i64 10000) ∧ w = w') := bad_at _ _ (by decide) b1
  have A3 : Hid (∀ w, Calls Try.prog 11 #[.int .i64 0, .int .i64 0] w fun e w' => ∃ r, e = .returned (.float .f64 r) ∧ r < 18446744073709551616 ∧ Fl.nn r = true ∧ Fl.Dr w w') := of00
  have A5 : Hid (∀ w, Calls Try.prog 21 #[.float .f64 4602678819172646912] w fun e w' => e = .returned (.int .i64 12) ∧ w = w') := bad_at _ _ (by decide) b2
  have A6 : Hid (∀ w, Calls Try.prog 21 #[.float .f64 13830554455654793216] w fun e w' => e = .returned (.int .i64 100) ∧ w = w') := bad_at _ _ (by decide) b3
  have A7 : Hid (∀ w, Calls Try.prog 24 #[.float .f64 4612811918334230528] w fun e w' => e = .returned (.int .i64 2) ∧ w = w') := by
    have := round_any 4612811918334230528 (by decide)
    rw [r1] at this
    exact this
  have A8 : Hid (∀ w, Calls Try.prog 18 #[.float .f64 0, .float .f64 13830554455654793216] w fun e w' => e = .returned (.float .f64 9223372036854775808) ∧ ∃ n, w' = w.drewN n) := copysign_any
  have A9 : Hid (∀ w, Calls Try.prog 16 #[.float .f64 9223372036854775808, .float .f64 0] w fun e w' => e = .returned (.int .i64 (-1)) ∧ ∃ n, w' = w.drewN n) := by
    have := order_any 9223372036854775808 0 (by decide) (by decide)
    rw [o1] at this
    exact this
  have A10 : Hid (∀ w, Calls Try.prog 26 #[.float .f64 4607182418800017408, .float .f64 Fl.inf, .float .f64 0] w fun e w' => e = .returned (.float .f64 4607182418800017408) ∧ Fl.Dr w w') := blend_at
  have A11 : Hid (∀ w, Calls Try.prog 28 #[.slice none 0 0] w fun e w' => ∃ r, e = .returned (.float .f64 r) ∧ r < 18446744073709551616 ∧ Fl.nn r = true ∧ Fl.Dr w w') := mean_nil
  have e1 := oE1
  have e2 := oE2
  generalize Fl.inf = inf at *
  go_enter Try.func10, Try.ntmps10
  go_wp2_with fail
  refine Calls.mono (H4.out _) ?_
  rintro e w1 ⟨rfl, rfl⟩
  go_wp2_with fail
  refine Calls.mono (A1.out _) ?_
  rintro e w2 ⟨rfl, d2⟩
  have D2 : Hid (Fl.Dr w w2) := d2
  clear d2
  go_wp2_with fail
  refine Calls.mono (A2.out _) ?_
  rintro e z ⟨rfl, rfl⟩
  go_wp2_with fail
  refine Calls.mono (A3.out _) ?_
  rintro e w3 ⟨r1, rfl, l1, n1, d3⟩
  have D3 : Hid (Fl.Dr w w3) := D2.out.trans d3
  clear d3
  have A4 : Hid (∀ w, Calls Try.prog 21 #[.float .f64 r1] w fun e w' => e = .returned (.int .i64 0) ∧ w = w') := bad_at _ _ l1 (bd_nn n1)
  clear l1 n1
  go_wp2_with fail
  refine Calls.mono (A4.out _) ?_
  rintro e z ⟨rfl, rfl⟩
  go_wp2_with fail
  refine Calls.mono (A5.out _) ?_
  rintro e z ⟨rfl, rfl⟩
  go_wp2_with fail
  refine Calls.mono (A6.out _) ?_
  rintro e z ⟨rfl, rfl⟩
  go_wp2_with fail
  refine Calls.mono (A7.out _) ?_
  rintro e z ⟨rfl, rfl⟩
  go_wp2_with fail
  refine Calls.mono (A8.out _) ?_
  rintro e w4 ⟨rfl, d4⟩
  have D4 : Hid (Fl.Dr w w4) := D3.out.trans d4
  clear d4
  go_wp2_with fail
  refine Calls.mono (A9.out _) ?_
  rintro e w5 ⟨rfl, d5⟩
  have D5 : Hid (Fl.Dr w w5) := D4.out.trans d5
  clear d5
  go_wp2_with fail
  refine Calls.mono (A10.out _) ?_
  rintro e w6 ⟨rfl, d6⟩
  have D6 : Hid (Fl.Dr w w6) := D5.out.trans d6
  clear d6
  go_wp2_with fail
  refine Calls.mono (A11.out _) ?_
  rintro e w7 ⟨r2, rfl, l2, n2, d7⟩
  have D7 : Hid (Fl.Dr w w7) := D6.out.trans d7
  clear d7
  have A12 : Hid (∀ w, Calls Try.prog 31 #[.float .f64 r2] w fun e w' => e = .returned (.bool true) ∧ w = w') := by
    have := isNaN_any r2 l2
    rw [n2] at this
    exact this
  clear l2 n2
  go_wp2_with fail
  refine Calls.mono (A12.out _) ?_
  rintro e z ⟨rfl, rfl⟩
  go_wp2_with fail
  go_ret
  exact ⟨rfl, D7.out⟩
end Go.Proofs.Ytihdfoigobijjaa
