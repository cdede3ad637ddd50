/-
  cmp.Compare of numbers, and the order that sameOut sorts by.
-/
import Derived.Test.YtelifjeppegcmaaBs
namespace Go.Proofs.Ytelifjeppegcmaa
open Go.RowKit Go.Maps
set_option linter.unusedVariables false
set_option linter.unusedSimpArgs false
/-- what comparing answers. -/
def cmpN (x y : Nat) : Int := if x < y then -1 else if y < x then 1 else 0
set_option maxRecDepth 100000 in
theorem isNaN_any (x : Nat) (w : World) : Calls Try.prog 44 #[.int .u32 (x : Int)] w fun e w' => e = .returned (.bool false) ∧ w' = w := by
  go_enter Try.func44, Try.ntmps44
  go_wp2_with fail
  go_ret
  exact ⟨by simp, rfl⟩
set_option maxRecDepth 100000 in
set_option maxHeartbeats 1000000 in
theorem compare_any (x y : Nat) (w : World) : Calls Try.prog 34 #[.int .u32 (x : Int), .int .u32 (y : Int)] w fun e w' => e = .returned (.int .i64 (cmpN x y)) ∧ w' = w := by
  by_cases h1 : x < y
  · have e : cmpN x y = -1 := by unfold cmpN; rw [if_pos h1]
    rw [e]
    have t1 : (x : Int) < (y : Int) := by omega
    go_enter Try.func34, Try.ntmps34
    go_wp2_with (go_at_call 44; refine Calls.mono (isNaN_any _ _) ?_; rintro e w1 ⟨rfl, rfl⟩)
    go_ret
    exact ⟨rfl, rfl⟩
  · have t1 : decide ((x : Int) < (y : Int)) = false := decide_eq_false (by omega)
    by_cases h2 : y < x
    · have e : cmpN x y = 1 := by unfold cmpN; rw [if_neg h1, if_pos h2]
      rw [e]
      have t2 : (y : Int) < (x : Int) := by omega
      go_enter Try.func34, Try.ntmps34
      go_wp2_with (go_at_call 44; refine Calls.mono (isNaN_any _ _) ?_; rintro e w1 ⟨rfl, rfl⟩)
      go_ret
      exact ⟨rfl, rfl⟩
    · have e : cmpN x y = 0 := by unfold cmpN; rw [if_neg h1, if_neg h2]
      rw [e]
      have t2 : decide ((y : Int) < (x : Int)) = false := decide_eq_false (by omega)
      go_enter Try.func34, Try.ntmps34
      go_wp2_with (go_at_call 44; refine Calls.mono (isNaN_any _ _) ?_; rintro e w1 ⟨rfl, rfl⟩)
      go_ret
      exact ⟨rfl, rfl⟩
set_option maxRecDepth 100000 in
set_option maxHeartbeats 1000000 in
theorem byOut_any (s t x y pa bo oo no co : Nat) (w : World) (hs : s < no) (ht : t < no) (hn : no ≤ 1000000) (h1 : w.cell? ⟨pa, 1, none⟩ = some (.slice (some ⟨bo, oo, none⟩) no co)) (h2 : w.cell? ⟨bo, oo + s, none⟩ = some (.int .u32 (x : Int))) (h3 : w.cell? ⟨bo, oo + t, none⟩ = some (.int .u32 (y : Int))) :
    Calls Try.prog 33 #[.int .i64 (s : Int), .int .i64 (t : Int), .pointer (some ⟨pa, 0, none⟩)] w fun e w' => e = .returned (.int .i64 (cmpN x y)) ∧ ∃ q, w' = w.drewN q := by
  have i1 : (s : Int) < (no : Int) := by omega
  have i2 : (t : Int) < (no : Int) := by omega
  have l1 := World.block_lt_of_cell? w _ h1
  have l2 := World.block_lt_of_cell? w _ h2
  obtain ⟨r, hr⟩ : ∃ r, r = cmpN x y := ⟨_, rfl⟩
  have HC : Hid (∀ W, Calls Try.prog 34 #[.int .u32 (x : Int), .int .u32 (y : Int)] W fun e w' => e = .returned (.int .i64 r) ∧ w' = W) := fun W => by rw [hr]; exact compare_any x y W
  rw [← hr]
  clear hr
  go_enter Try.func33, Try.ntmps33
  go_wp2_with fail
  go_quiet ((go_at_call 34; exact Calls.quiet_of_same (HC.out _)))
  go_wp2_with fail
  go_ret
  exact ⟨rfl, _, rfl⟩
end Go.Proofs.Ytelifjeppegcmaa
