/-
  stanzalaw13.SpanChecks: its walk; Check, and the document's.
-/
import Derived.Test.YtdefgoiankabeaaSw
import Derived.Test.YtdefgoiankabeaaVc
namespace Go.Proofs.Ytdefgoiankabeaa
open Go.RowKit Go.Maps
set_option linter.unusedVariables false
set_option linter.unusedSimpArgs false
/-- is it a way? -/
abbrev Cfg.good (c : Cfg) : Prop := (1 ≤ c.wi ∧ c.wi ≤ 1048576) ∧ (1 ≤ c.tb ∧ c.tb ≤ 64) ∧ (c.mo = 0 ∨ c.mo = 1) ∧ (0 ≤ c.hy ∧ c.hy ≤ 1048576) ∧ (0 ≤ c.pr ∧ c.pr ≤ 1048576)
theorem blk_six {w : World} {R : Nat} {t : TypeId} {v0 v1 v2 v3 v4 v5 : Value} (h : w.heap[R]? = some (.cells #[v0, v1, v2, v3, v4, v5] t (0, 0))) : w.cell? ⟨R, 0, none⟩ = some v0 ∧ w.cell? ⟨R, 1, none⟩ = some v1 ∧ w.cell? ⟨R, 2, none⟩ = some v2 ∧ w.cell? ⟨R, 3, none⟩ = some v3 ∧ w.cell? ⟨R, 4, none⟩ = some v4 ∧ w.cell? ⟨R, 5, none⟩ = some v5 := ⟨cell_blk h, cell_blk h, cell_blk h, cell_blk h, cell_blk h, cell_blk h⟩
theorem box6 (w : World) (v0 v1 v2 v3 v4 v5 : Value) (t : TypeId) : ∃ R w0, w.alloc (.cells #[v0, v1, v2, v3, v4, v5] t) = w0 ∧ w.heap.size = R ∧ Hid (w0.heap[R]? = some (.cells #[v0, v1, v2, v3, v4, v5] t (0, 0)) ∧ Only (fun _ => False) w w0 ∧ R = w.heap.size) ∧ R < w0.heap.size :=
  ⟨_, _, rfl, rfl, ⟨heap_alloc_new w _, (Only.refl _ _).alloc _, rfl⟩, by rw [size_alloc1]; exact Nat.lt_succ_self _⟩
set_option maxRecDepth 100000 in
set_option maxHeartbeats 400000 in
theorem within_any (n a b : Int) (w : World) : Calls Try.prog 28 #[.int .i64 n, .int .i64 a, .int .i64 b] w fun e w' => e = .returned (.bool (decide (a ≤ n ∧ n ≤ b))) ∧ w' = w := by
  by_cases h1 : a ≤ n
  · by_cases h2 : n ≤ b
    · rw [decide_eq_true ⟨h1, h2⟩]
      go_enter Try.func28, Try.ntmps28
      go_wp2_with fail
      go_ret
      exact ⟨rfl, rfl⟩
    · rw [decide_eq_false (fun h => h2 h.2)]
      have t : decide (n ≤ b) = false := decide_eq_false h2
      go_enter Try.func28, Try.ntmps28
      go_wp2_with fail
      go_ret
      exact ⟨rfl, rfl⟩
  · rw [decide_eq_false (fun h => h1 h.1)]
    have t : decide (a ≤ n) = false := decide_eq_false h1
    go_enter Try.func28, Try.ntmps28
    go_wp2_with fail
    go_ret
    exact ⟨rfl, rfl⟩
set_option maxRecDepth 100000 in
set_option maxHeartbeats 4000000 in
theorem check_any (wi tb : Int) (mo : Nat) (hy pr : Int) (lo : Nat) (w : World) (hm : mo < 256) : Calls Try.prog 10 #[.agg #[.int .i64 wi, .int .i64 tb, .int .u8 (mo : Int), .int .i64 hy, .int .i64 pr, .float .f64 lo]] w fun e w' => e = .returned (.bool (decide (Cfg.good ⟨wi, tb, mo, hy, pr, lo⟩))) ∧ Only (fun _ => False) w w' := by
  by_cases hA : 1 ≤ wi ∧ wi ≤ 1048576
  · have HA : Hid (decide (1 ≤ wi ∧ wi ≤ 1048576) = true) := decide_eq_true hA
    by_cases hB : 1 ≤ tb ∧ tb ≤ 64
    · have HB : Hid (decide (1 ≤ tb ∧ tb ≤ 64) = true) := decide_eq_true hB
      by_cases hM : mo = 0 ∨ mo = 1
      · by_cases hH : 0 ≤ hy ∧ hy ≤ 1048576
        · have HH : Hid (decide (0 ≤ hy ∧ hy ≤ 1048576) = true) := decide_eq_true hH
          by_cases hP : 0 ≤ pr ∧ pr ≤ 1048576
          · have HP : Hid (decide (0 ≤ pr ∧ pr ≤ 1048576) = true) := decide_eq_true hP
            have hM2 := hM
            rcases hM2 with h0 | h0
            · have m0 : ((mo : Int) == 0) = true := by rw [beq_iff_eq]; omega
              rw [show decide (Cfg.good ⟨wi, tb, mo, hy, pr, lo⟩) = true from decide_eq_true ⟨hA, hB, hM, hH, hP⟩]
              go_enter Try.func10, Try.ntmps10
              clear hA hB hM hH hP h0
              go_wp2_with (first | (go_at_call 28; refine Calls.mono (within_any _ _ _ _) ?_; (first | rw [HA.out] | rw [HB.out] | rw [HH.out] | rw [HP.out]); rintro e w2 ⟨rfl, hw2⟩; have hw2 := hw2.symm; subst hw2) | fail)
              go_ret
              exact ⟨rfl, (Only.refl _ _).alloc _⟩
            · have m0 : ((mo : Int) == 0) = false := by rw [beq_eq_false_iff_ne]; omega
              have m1 : ((mo : Int) == 1) = true := by rw [beq_iff_eq]; omega
              rw [show decide (Cfg.good ⟨wi, tb, mo, hy, pr, lo⟩) = true from decide_eq_true ⟨hA, hB, hM, hH, hP⟩]
              go_enter Try.func10, Try.ntmps10
              clear hA hB hM hH hP h0
              go_wp2_with (first | (go_at_call 28; refine Calls.mono (within_any _ _ _ _) ?_; (first | rw [HA.out] | rw [HB.out] | rw [HH.out] | rw [HP.out]); rintro e w2 ⟨rfl, hw2⟩; have hw2 := hw2.symm; subst hw2) | fail)
              go_ret
              exact ⟨rfl, (Only.refl _ _).alloc _⟩
          · have HP : Hid (decide (0 ≤ pr ∧ pr ≤ 1048576) = false) := decide_eq_false hP
            have hM2 := hM
            rcases hM2 with h0 | h0
            · have m0 : ((mo : Int) == 0) = true := by rw [beq_iff_eq]; omega
              rw [show decide (Cfg.good ⟨wi, tb, mo, hy, pr, lo⟩) = false from decide_eq_false (fun h => hP h.2.2.2.2)]
              go_enter Try.func10, Try.ntmps10
              clear hA hB hM hH hP h0
              go_wp2_with (first | (go_at_call 28; refine Calls.mono (within_any _ _ _ _) ?_; (first | rw [HA.out] | rw [HB.out] | rw [HH.out] | rw [HP.out]); rintro e w2 ⟨rfl, hw2⟩; have hw2 := hw2.symm; subst hw2) | fail)
              go_ret
              exact ⟨rfl, (Only.refl _ _).alloc _⟩
            · have m0 : ((mo : Int) == 0) = false := by rw [beq_eq_false_iff_ne]; omega
              have m1 : ((mo : Int) == 1) = true := by rw [beq_iff_eq]; omega
              rw [show decide (Cfg.good ⟨wi, tb, mo, hy, pr, lo⟩) = false from decide_eq_false (fun h => hP h.2.2.2.2)]
              go_enter Try.func10, Try.ntmps10
              clear hA hB hM hH hP h0
              go_wp2_with (first | (go_at_call 28; refine Calls.mono (within_any _ _ _ _) ?_; (first | rw [HA.out] | rw [HB.out] | rw [HH.out] | rw [HP.out]); rintro e w2 ⟨rfl, hw2⟩; have hw2 := hw2.symm; subst hw2) | fail)
              go_ret
              exact ⟨rfl, (Only.refl _ _).alloc _⟩
        · have HH : Hid (decide (0 ≤ hy ∧ hy ≤ 1048576) = false) := decide_eq_false hH
          have hM2 := hM
          rcases hM2 with h0 | h0
          · have m0 : ((mo : Int) == 0) = true := by rw [beq_iff_eq]; omega
            rw [show decide (Cfg.good ⟨wi, tb, mo, hy, pr, lo⟩) = false from decide_eq_false (fun h => hH h.2.2.2.1)]
            go_enter Try.func10, Try.ntmps10
            clear hA hB hM hH h0
            go_wp2_with (first | (go_at_call 28; refine Calls.mono (within_any _ _ _ _) ?_; (first | rw [HA.out] | rw [HB.out] | rw [HH.out]); rintro e w2 ⟨rfl, hw2⟩; have hw2 := hw2.symm; subst hw2) | fail)
            go_ret
            exact ⟨rfl, (Only.refl _ _).alloc _⟩
          · have m0 : ((mo : Int) == 0) = false := by rw [beq_eq_false_iff_ne]; omega
            have m1 : ((mo : Int) == 1) = true := by rw [beq_iff_eq]; omega
            rw [show decide (Cfg.good ⟨wi, tb, mo, hy, pr, lo⟩) = false from decide_eq_false (fun h => hH h.2.2.2.1)]
            go_enter Try.func10, Try.ntmps10
            clear hA hB hM hH h0
            go_wp2_with (first | (go_at_call 28; refine Calls.mono (within_any _ _ _ _) ?_; (first | rw [HA.out] | rw [HB.out] | rw [HH.out]); rintro e w2 ⟨rfl, hw2⟩; have hw2 := hw2.symm; subst hw2) | fail)
            go_ret
            exact ⟨rfl, (Only.refl _ _).alloc _⟩
      · have m0 : ((mo : Int) == 0) = false := by rw [beq_eq_false_iff_ne]; omega
        have m1 : ((mo : Int) == 1) = false := by rw [beq_eq_false_iff_ne]; omega
        rw [show decide (Cfg.good ⟨wi, tb, mo, hy, pr, lo⟩) = false from decide_eq_false (fun h => hM h.2.2.1)]
        go_enter Try.func10, Try.ntmps10
        clear hA hB hM
        go_wp2_with (first | (go_at_call 28; refine Calls.mono (within_any _ _ _ _) ?_; (first | rw [HA.out] | rw [HB.out]); rintro e w2 ⟨rfl, hw2⟩; have hw2 := hw2.symm; subst hw2) | fail)
        go_ret
        exact ⟨rfl, (Only.refl _ _).alloc _⟩
    · have HB : Hid (decide (1 ≤ tb ∧ tb ≤ 64) = false) := decide_eq_false hB
      rw [show decide (Cfg.good ⟨wi, tb, mo, hy, pr, lo⟩) = false from decide_eq_false (fun h => hB h.2.1)]
      go_enter Try.func10, Try.ntmps10
      clear hA hB
      go_wp2_with (first | (go_at_call 28; refine Calls.mono (within_any _ _ _ _) ?_; (first | rw [HA.out] | rw [HB.out]); rintro e w2 ⟨rfl, hw2⟩; have hw2 := hw2.symm; subst hw2) | fail)
      go_ret
      exact ⟨rfl, (Only.refl _ _).alloc _⟩
  · have HA : Hid (decide (1 ≤ wi ∧ wi ≤ 1048576) = false) := decide_eq_false hA
    rw [show decide (Cfg.good ⟨wi, tb, mo, hy, pr, lo⟩) = false from decide_eq_false (fun h => hA h.1)]
    go_enter Try.func10, Try.ntmps10
    clear hA
    go_wp2_with (first | (go_at_call 28; refine Calls.mono (within_any _ _ _ _) ?_; (first | rw [HA.out]); rintro e w2 ⟨rfl, hw2⟩; have hw2 := hw2.symm; subst hw2) | fail)
    go_ret
    exact ⟨rfl, (Only.refl _ _).alloc _⟩
set_option maxRecDepth 100000 in
set_option maxHeartbeats 4000000 in
theorem refCheck_any (wi tb : Int) (mo : Nat) (hy pr : Int) (lo : Nat) (w : World) (hm : mo < 256) : Calls Try.prog 11 #[.agg #[.int .i64 wi, .int .i64 tb, .int .u8 (mo : Int), .int .i64 hy, .int .i64 pr, .float .f64 lo]] w fun e w' => e = .returned (.bool (decide (Cfg.good ⟨wi, tb, mo, hy, pr, lo⟩))) ∧ Only (fun _ => False) w w' := by
  by_cases l0 : 1 ≤ wi
  · by_cases u0 : wi ≤ 1048576
    · have h0 : 1 ≤ wi ∧ wi ≤ 1048576 := ⟨l0, u0⟩
      by_cases l1 : 1 ≤ tb
      · by_cases u1 : tb ≤ 64
        · have h1 : 1 ≤ tb ∧ tb ≤ 64 := ⟨l1, u1⟩
          by_cases h2 : mo = 0 ∨ mo = 1
          · have h22 := h2
            rcases h22 with g0 | g0
            · have m0 : ((mo : Int) == 0) = true := by rw [beq_iff_eq]; omega
              by_cases l3 : 0 ≤ hy
              · by_cases u3 : hy ≤ 1048576
                · have h3 : 0 ≤ hy ∧ hy ≤ 1048576 := ⟨l3, u3⟩
                  by_cases l4 : 0 ≤ pr
                  · by_cases u4 : pr ≤ 1048576
                    · have h4 : 0 ≤ pr ∧ pr ≤ 1048576 := ⟨l4, u4⟩
                      rw [show decide (Cfg.good ⟨wi, tb, mo, hy, pr, lo⟩) = true from decide_eq_true ⟨h0, h1, h2, h3, h4⟩]
                      go_enter Try.func11, Try.ntmps11
                      go_wp2_with fail
                      go_ret
                      exact ⟨rfl, (Only.refl _ _).alloc _⟩
                    · have d4 : decide (pr ≤ 1048576) = false := decide_eq_false u4
                      rw [show decide (Cfg.good ⟨wi, tb, mo, hy, pr, lo⟩) = false from decide_eq_false (fun h => u4 h.2.2.2.2.2)]
                      go_enter Try.func11, Try.ntmps11
                      go_wp2_with fail
                      go_ret
                      exact ⟨rfl, (Only.refl _ _).alloc _⟩
                  · have d4 : decide (0 ≤ pr) = false := decide_eq_false l4
                    rw [show decide (Cfg.good ⟨wi, tb, mo, hy, pr, lo⟩) = false from decide_eq_false (fun h => l4 h.2.2.2.2.1)]
                    go_enter Try.func11, Try.ntmps11
                    go_wp2_with fail
                    go_ret
                    exact ⟨rfl, (Only.refl _ _).alloc _⟩
                · have d3 : decide (hy ≤ 1048576) = false := decide_eq_false u3
                  rw [show decide (Cfg.good ⟨wi, tb, mo, hy, pr, lo⟩) = false from decide_eq_false (fun h => u3 h.2.2.2.1.2)]
                  go_enter Try.func11, Try.ntmps11
                  go_wp2_with fail
                  go_ret
                  exact ⟨rfl, (Only.refl _ _).alloc _⟩
              · have d3 : decide (0 ≤ hy) = false := decide_eq_false l3
                rw [show decide (Cfg.good ⟨wi, tb, mo, hy, pr, lo⟩) = false from decide_eq_false (fun h => l3 h.2.2.2.1.1)]
                go_enter Try.func11, Try.ntmps11
                go_wp2_with fail
                go_ret
                exact ⟨rfl, (Only.refl _ _).alloc _⟩
            · have m0 : ((mo : Int) == 0) = false := by rw [beq_eq_false_iff_ne]; omega
              have m1 : ((mo : Int) == 1) = true := by rw [beq_iff_eq]; omega
              by_cases l3 : 0 ≤ hy
              · by_cases u3 : hy ≤ 1048576
                · have h3 : 0 ≤ hy ∧ hy ≤ 1048576 := ⟨l3, u3⟩
                  by_cases l4 : 0 ≤ pr
                  · by_cases u4 : pr ≤ 1048576
                    · have h4 : 0 ≤ pr ∧ pr ≤ 1048576 := ⟨l4, u4⟩
                      rw [show decide (Cfg.good ⟨wi, tb, mo, hy, pr, lo⟩) = true from decide_eq_true ⟨h0, h1, h2, h3, h4⟩]
                      go_enter Try.func11, Try.ntmps11
                      go_wp2_with fail
                      go_ret
                      exact ⟨rfl, (Only.refl _ _).alloc _⟩
                    · have d4 : decide (pr ≤ 1048576) = false := decide_eq_false u4
                      rw [show decide (Cfg.good ⟨wi, tb, mo, hy, pr, lo⟩) = false from decide_eq_false (fun h => u4 h.2.2.2.2.2)]
                      go_enter Try.func11, Try.ntmps11
                      go_wp2_with fail
                      go_ret
                      exact ⟨rfl, (Only.refl _ _).alloc _⟩
                  · have d4 : decide (0 ≤ pr) = false := decide_eq_false l4
                    rw [show decide (Cfg.good ⟨wi, tb, mo, hy, pr, lo⟩) = false from decide_eq_false (fun h => l4 h.2.2.2.2.1)]
                    go_enter Try.func11, Try.ntmps11
                    go_wp2_with fail
                    go_ret
                    exact ⟨rfl, (Only.refl _ _).alloc _⟩
                · have d3 : decide (hy ≤ 1048576) = false := decide_eq_false u3
                  rw [show decide (Cfg.good ⟨wi, tb, mo, hy, pr, lo⟩) = false from decide_eq_false (fun h => u3 h.2.2.2.1.2)]
                  go_enter Try.func11, Try.ntmps11
                  go_wp2_with fail
                  go_ret
                  exact ⟨rfl, (Only.refl _ _).alloc _⟩
              · have d3 : decide (0 ≤ hy) = false := decide_eq_false l3
                rw [show decide (Cfg.good ⟨wi, tb, mo, hy, pr, lo⟩) = false from decide_eq_false (fun h => l3 h.2.2.2.1.1)]
                go_enter Try.func11, Try.ntmps11
                go_wp2_with fail
                go_ret
                exact ⟨rfl, (Only.refl _ _).alloc _⟩
          · have m0 : ((mo : Int) == 0) = false := by rw [beq_eq_false_iff_ne]; omega
            have m1 : ((mo : Int) == 1) = false := by rw [beq_eq_false_iff_ne]; omega
            rw [show decide (Cfg.good ⟨wi, tb, mo, hy, pr, lo⟩) = false from decide_eq_false (fun h => h2 h.2.2.1)]
            go_enter Try.func11, Try.ntmps11
            go_wp2_with fail
            go_ret
            exact ⟨rfl, (Only.refl _ _).alloc _⟩
        · have d1 : decide (tb ≤ 64) = false := decide_eq_false u1
          rw [show decide (Cfg.good ⟨wi, tb, mo, hy, pr, lo⟩) = false from decide_eq_false (fun h => u1 h.2.1.2)]
          go_enter Try.func11, Try.ntmps11
          go_wp2_with fail
          go_ret
          exact ⟨rfl, (Only.refl _ _).alloc _⟩
      · have d1 : decide (1 ≤ tb) = false := decide_eq_false l1
        rw [show decide (Cfg.good ⟨wi, tb, mo, hy, pr, lo⟩) = false from decide_eq_false (fun h => l1 h.2.1.1)]
        go_enter Try.func11, Try.ntmps11
        go_wp2_with fail
        go_ret
        exact ⟨rfl, (Only.refl _ _).alloc _⟩
    · have d0 : decide (wi ≤ 1048576) = false := decide_eq_false u0
      rw [show decide (Cfg.good ⟨wi, tb, mo, hy, pr, lo⟩) = false from decide_eq_false (fun h => u0 h.1.2)]
      go_enter Try.func11, Try.ntmps11
      go_wp2_with fail
      go_ret
      exact ⟨rfl, (Only.refl _ _).alloc _⟩
  · have d0 : decide (1 ≤ wi) = false := decide_eq_false l0
    rw [show decide (Cfg.good ⟨wi, tb, mo, hy, pr, lo⟩) = false from decide_eq_false (fun h => l0 h.1.1)]
    go_enter Try.func11, Try.ntmps11
    go_wp2_with fail
    go_ret
    exact ⟨rfl, (Only.refl _ _).alloc _⟩
namespace spanChecks
set_option maxRecDepth 100000 in
set_option maxHeartbeats 4000000 in
theorem walk (K : Cfg) (w : World) (hK : K.Ok) : Calls Try.prog 3 #[K.val] w fun e w' => e = .returned (.bool true) ∧ Only (fun _ => False) w w' := by
  obtain ⟨wi, tb, mo, hy, pr, lo⟩ := K
  have hm : mo < 256 := hK.2.2.1
  unfold Cfg.val
  simp only
  clear hK
  obtain ⟨d, hd⟩ : ∃ d, d = decide (Cfg.good ⟨wi, tb, mo, hy, pr, lo⟩) := ⟨_, rfl⟩
  have H1 : Hid (∀ W, Calls Try.prog 10 #[.agg #[.int .i64 wi, .int .i64 tb, .int .u8 (mo : Int), .int .i64 hy, .int .i64 pr, .float .f64 lo]] W fun e w' => e = .returned (.bool d) ∧ Only (fun _ => False) W w') := fun W => by rw [hd]; exact check_any wi tb mo hy pr lo W hm
  have H2 : Hid (∀ W, Calls Try.prog 11 #[.agg #[.int .i64 wi, .int .i64 tb, .int .u8 (mo : Int), .int .i64 hy, .int .i64 pr, .float .f64 lo]] W fun e w' => e = .returned (.bool d) ∧ Only (fun _ => False) W w') := fun W => by rw [hd]; exact refCheck_any wi tb mo hy pr lo W hm
  have hdd : (d == d) = true := by cases d <;> rfl
  clear hd
  go_enter Try.func3, Try.ntmps3
  go_wp2_with fail
  obtain ⟨R, w0, hw0, hR, H0, lR⟩ := box6 w (.int .i64 wi) (.int .i64 tb) (.int .u8 (mo : Int)) (.int .i64 hy) (.int .i64 pr) (.float .f64 lo) 25
  rw [hw0, hR]
  have HS : Hid (∀ W', Only (fun _ => False) w0 W' → W'.cell? ⟨R, 0, none⟩ = some (.int .i64 wi) ∧ W'.cell? ⟨R, 1, none⟩ = some (.int .i64 tb) ∧ W'.cell? ⟨R, 2, none⟩ = some (.int .u8 (mo : Int)) ∧ W'.cell? ⟨R, 3, none⟩ = some (.int .i64 hy) ∧ W'.cell? ⟨R, 4, none⟩ = some (.int .i64 pr) ∧ W'.cell? ⟨R, 5, none⟩ = some (.float .f64 lo)) := fun W' ho => blk_six (blk_keep ho H0.out.1)
  clear hw0 hR
  go_region_held3 (fun W' => W'.cell? ⟨R, 0, none⟩ = some (.int .i64 wi) ∧ W'.cell? ⟨R, 1, none⟩ = some (.int .i64 tb) ∧ W'.cell? ⟨R, 2, none⟩ = some (.int .u8 (mo : Int)) ∧ W'.cell? ⟨R, 3, none⟩ = some (.int .i64 hy) ∧ W'.cell? ⟨R, 4, none⟩ = some (.int .i64 pr) ∧ W'.cell? ⟨R, 5, none⟩ = some (.float .f64 lo)) ((first | exact HS.out _ (Only.refl _ _).drew | exact HS.out _ H3.out | exact HS.out _ H4.out | exact HS.out _ H5.out)) ((first | (go_at_call 9; refine Calls.mono (awake_any _) ?_; rintro e w3 ⟨rfl, ho3⟩; have H3 : Hid (Only (fun _ => False) w0 w3) := ((Only.refl _ _).drew).trans ho3; clear ho3) | (go_at_call 10; refine Calls.mono (H1.out _) ?_; rintro e w4 ⟨rfl, ho4⟩; have H4 : Hid (Only (fun _ => False) w0 w4) := (by first | exact H3.out.trans ho4 | exact H5.out.trans ho4); clear ho4) | (go_at_call 11; refine Calls.mono (H2.out _) ?_; rintro e w5 ⟨rfl, ho5⟩; have H5 : Hid (Only (fun _ => False) w0 w5) := (by first | exact H4.out.trans ho5 | exact H3.out.trans ho5); clear ho5)))
  all_goals go_wp2_with fail
  all_goals go_ret
  all_goals exact ⟨rfl, H0.out.2.1.trans (by first | exact H5.out | exact H4.out)⟩
end spanChecks
end Go.Proofs.Ytdefgoiankabeaa
