/-
  place's search by halves: the functions that it calls.
-/
import Derived.Test.YteejgjapghccnaaYa
namespace Go.Proofs.Yteejgjapghccnaa
open Go.RowKit Go.Maps
set_option linter.unusedVariables false
set_option linter.unusedSimpArgs false
/-- what comparing answers. -/
def cmpN (x y : Nat) : Int := if x < y then -1 else if y < x then 1 else 0
set_option maxRecDepth 100000 in
theorem isNaN_any (x : Nat) (w : World) : Calls Try.prog 41 #[.int .i64 (x : Int)] w fun e w' => e = .returned (.bool false) ∧ w = w' := by
  go_enter Try.func41, Try.ntmps41
  go_wp2_with fail
  go_ret
  exact ⟨by simp, rfl⟩
set_option maxRecDepth 100000 in
set_option maxHeartbeats 1000000 in
theorem compare_any (x y : Nat) (w : World) : Calls Try.prog 34 #[.int .i64 (x : Int), .int .i64 (y : Int)] w fun e w' => e = .returned (.int .i64 (cmpN x y)) ∧ w = w' := by
  by_cases h1 : x < y
  · have e : cmpN x y = -1 := by unfold cmpN; rw [if_pos h1]
    rw [e]
    have t1 : (x : Int) < (y : Int) := by omega
    go_enter Try.func34, Try.ntmps34
    go_wp2_with (go_at_call 41; refine Calls.mono (isNaN_any _ _) ?_; rintro e w1 ⟨rfl, rfl⟩)
    go_ret
    exact ⟨rfl, rfl⟩
  · have t1 : decide ((x : Int) < (y : Int)) = false := decide_eq_false (by omega)
    by_cases h2 : y < x
    · have e : cmpN x y = 1 := by unfold cmpN; rw [if_neg h1, if_pos h2]
      rw [e]
      have t2 : (y : Int) < (x : Int) := by omega
      go_enter Try.func34, Try.ntmps34
      go_wp2_with (go_at_call 41; refine Calls.mono (isNaN_any _ _) ?_; rintro e w1 ⟨rfl, rfl⟩)
      go_ret
      exact ⟨rfl, rfl⟩
    · have e : cmpN x y = 0 := by unfold cmpN; rw [if_neg h1, if_neg h2]
      rw [e]
      have t2 : decide ((y : Int) < (x : Int)) = false := decide_eq_false (by omega)
      go_enter Try.func34, Try.ntmps34
      go_wp2_with (go_at_call 41; refine Calls.mono (isNaN_any _ _) ?_; rintro e w1 ⟨rfl, rfl⟩)
      go_ret
      exact ⟨rfl, rfl⟩
set_option maxRecDepth 100000 in
theorem itself_any (x : Nat) (w : World) : Calls Try.prog 23 #[.int .i64 (x : Int)] w fun e w' => e = .returned (.int .i64 (x : Int)) ∧ w = w' := by
  go_enter Try.func23, Try.ntmps23
  go_wp2_with fail
  go_ret
  exact ⟨rfl, rfl⟩
set_option maxRecDepth 100000 in
theorem begin_any (x : Nat) (al : Option Addr) (n c : Nat) (w : World) : Calls Try.prog 25 #[.agg #[.int .i64 (x : Int), .slice al n c]] w fun e w' => e = .returned (.int .i64 (x : Int)) ∧ Only (fun _ => False) w w' := by
  go_enter Try.func25, Try.ntmps25
  go_upto_region 1 with fail
  obtain ⟨R, w0, hw0, hR, H0, r0, r1, lR⟩ := box2 w (.int .i64 (x : Int)) (.slice al n c) 80
  rw [hw0, hR]
  clear hw0 hR
  go_wp2_with fail
  go_ret
  exact ⟨rfl, H0.out.2⟩
/-- the closures that are handed to the search. -/
theorem byNum_any (x y pb : Nat) (w : World) (h : w.cell? ⟨pb, 0, none⟩ = some (.func (.func 23) #[] #[])) : Calls Try.prog 33 #[.int .i64 (x : Int), .int .i64 (y : Int), .pointer (some ⟨pb, 0, none⟩)] w fun e w' => e = .returned (.int .i64 (cmpN x y)) ∧ w = w' := by
  obtain ⟨r, hr⟩ : ∃ r, r = cmpN x y := ⟨_, rfl⟩
  have HC : Hid (∀ W, Calls Try.prog 34 #[.int .i64 (x : Int), .int .i64 (y : Int)] W fun e w' => e = .returned (.int .i64 r) ∧ W = w') := fun W => by rw [hr]; exact compare_any x y W
  rw [← hr]
  clear hr
  have l1 := World.block_lt_of_cell? w _ h
  go_enter Try.func33, Try.ntmps33
  go_wp2_with fail
  refine Calls.mono (itself_any x _) ?_
  rintro e w1 ⟨rfl, rfl⟩
  go_wp2_with fail
  refine Calls.mono (HC.out _) ?_
  rintro e w1 ⟨rfl, rfl⟩
  go_wp2_with fail
  go_ret
  exact ⟨rfl, rfl⟩
theorem byRow_any (x y pb : Nat) (al : Option Addr) (n c : Nat) (w : World) (h : w.cell? ⟨pb, 0, none⟩ = some (.func (.func 25) #[] #[])) : Calls Try.prog 36 #[.agg #[.int .i64 (x : Int), .slice al n c], .int .i64 (y : Int), .pointer (some ⟨pb, 0, none⟩)] w fun e w' => e = .returned (.int .i64 (cmpN x y)) ∧ Only (fun _ => False) w w' := by
  obtain ⟨r, hr⟩ : ∃ r, r = cmpN x y := ⟨_, rfl⟩
  have HC : Hid (∀ W, Calls Try.prog 34 #[.int .i64 (x : Int), .int .i64 (y : Int)] W fun e w' => e = .returned (.int .i64 r) ∧ W = w') := fun W => by rw [hr]; exact compare_any x y W
  rw [← hr]
  clear hr
  go_enter Try.func36, Try.ntmps36
  go_upto_region 1 with fail
  obtain ⟨R, w0, hw0, hR, H0, r0, r1, lR⟩ := box2 w (.int .i64 (x : Int)) (.slice al n c) 80
  rw [hw0, hR]
  clear hw0 hR
  have h' := keep0 H0.out.2 h
  have l1 := World.block_lt_of_cell? w0 _ h'
  go_wp2_with fail
  refine Calls.mono (begin_any x al n c _) ?_
  rintro e w1 ⟨rfl, ho1⟩
  have H1 : Hid (Only (fun _ => False) w w1) := H0.out.2.trans ho1
  clear ho1 r0 r1 h' l1 lR h
  go_wp2_with fail
  refine Calls.mono (HC.out _) ?_
  rintro e w2 ⟨rfl, rfl⟩
  go_wp2_with fail
  go_ret
  exact ⟨rfl, H1.out⟩
theorem cmp_lt {x y : Nat} (h : x < y) : cmpN x y < 0 ∧ (cmpN x y == 0) = false := by unfold cmpN; rw [if_pos h]; exact ⟨by decide, by decide⟩
theorem cmp_eq {x y : Nat} (h : x = y) : ¬ cmpN x y < 0 ∧ (cmpN x y == 0) = true := by unfold cmpN; rw [if_neg (by omega), if_neg (by omega)]; exact ⟨by decide, by decide⟩
theorem cmp_gt {x y : Nat} (h : y < x) : ¬ cmpN x y < 0 ∧ (cmpN x y == 0) = false := by unfold cmpN; rw [if_neg (by omega), if_pos h]; exact ⟨by decide, by decide⟩
end Go.Proofs.Yteejgjapghccnaa
