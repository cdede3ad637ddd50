/-
  Two boundaries of a text, as the statements draw them.
-/
import Derived.Test.YtdefgoiankabeaaSa2
namespace Go.Proofs.Ytdefgoiankabeaa
open Go.RowKit Go.Maps
set_option linter.unusedVariables false
set_option linter.unusedSimpArgs false
theorem wrap_smallu (x : Int) (h0 : 0 ≤ x) (h1 : x < 2 ^ 64) : IntKind.u64.wrap x = x := by
  simp only [IntKind.wrap, IntKind.bits, IntKind.signed]
  simp
  omega
theorem wrap_small (x : Int) (h0 : 0 ≤ x) (h1 : x < 2 ^ 63) : IntKind.i64.wrap x = x := by
  simp only [IntKind.wrap, IntKind.bits, IntKind.signed]
  simp
  omega
theorem wrap_u64_nn (x : Int) : 0 ≤ IntKind.u64.wrap x := by
  simp only [IntKind.wrap, IntKind.bits, IntKind.signed]
  simp
  omega
/-- a number taken as one below n. -/
theorem drawn (a : Int) (n : Nat) (h : 0 < n) : ∃ (u : Int) (x : Nat), IntKind.u64.wrap a = u ∧ u.tmod (n : Int) = (x : Int) ∧ x < n := by
  have p5 := wrap_u64_nn a
  have p0 : (0 : Int) < (n : Int) := by omega
  have q := Int.tmod_nonneg (n : Int) p5
  have b := Int.tmod_lt_of_pos (IntKind.u64.wrap a) p0
  exact ⟨_, ((IntKind.u64.wrap a).tmod (n : Int)).toNat, rfl, by omega, by omega⟩
set_option maxRecDepth 100000 in
set_option maxHeartbeats 4000000 in
theorem cut_any (n m : Nat) (aC aO : Option Addr) (cC cO : Nat) (a b : Int) (w : World) (hn : n ≤ 100000) :
    Calls Try.prog 13 #[.agg #[.slice aC n cC, .slice aO m cO], .int .i64 a, .int .i64 b] w fun e w' => ∃ x y : Nat, e = .returned (.tuple #[.int .i64 (x : Int), .int .i64 (y : Int)]) ∧ x ≤ y ∧ y ≤ n ∧ Only (fun _ => False) w w' := by
  obtain ⟨n1, hn1⟩ : ∃ n1, n1 = n + 1 := ⟨_, rfl⟩
  have hl : n1 ≤ 100001 := by omega
  have h0 : 0 < n1 := by omega
  have p0 : (0 : Int) < (n1 : Int) := by omega
  have p1 : ¬ (n1 : Int) = 0 := by omega
  have p2 : ((n1 : Int) == 0) = false := by simpa using p1
  have p3 : IntKind.u64.wrap (n1 : Int) = (n1 : Int) := wrap_smallu _ (by omega) (by omega)
  have p4 : IntKind.i64.wrap ((n : Int) + 1) = (n1 : Int) := by rw [IntKind.wrap_i64]; omega
  obtain ⟨ua, x, a1, a2, a3⟩ := drawn a n1 h0
  obtain ⟨ub, y, b1, b2, b3⟩ := drawn b n1 h0
  have x1 : IntKind.u64.wrap (x : Int) = (x : Int) := wrap_smallu _ (by omega) (by omega)
  have x2 : IntKind.i64.wrap (x : Int) = (x : Int) := wrap_small _ (by omega) (by omega)
  have y1 : IntKind.u64.wrap (y : Int) = (y : Int) := wrap_smallu _ (by omega) (by omega)
  have y2 : IntKind.i64.wrap (y : Int) = (y : Int) := wrap_small _ (by omega) (by omega)
  have HN : Hid (n1 = n + 1) := hn1
  have HR : Hid (x ≤ n ∧ y ≤ n) := ⟨by omega, by omega⟩
  clear hn1
  by_cases hxy : x ≤ y
  · have m1 : (x : Int) ≤ (y : Int) := by omega
    go_enter Try.func13, Try.ntmps13
    go_wp2_with fail
    go_quiet (fail)
    go_wp2_with fail
    all_goals first | (exfalso; omega) | (have e : x = y := (by omega); subst e; go_ret2; exact ⟨x, x, rfl, Nat.le_refl _, HR.out.2, ((Only.refl _ _).alloc _).drewN _⟩) | (go_ret2; exact ⟨x, y, rfl, hxy, HR.out.2, ((Only.refl _ _).alloc _).drewN _⟩)
  · have m1 : (y : Int) < (x : Int) := by omega
    have m2 : ¬ ((x : Int) ≤ (y : Int)) := by omega
    go_enter Try.func13, Try.ntmps13
    go_wp2_with fail
    go_quiet (fail)
    go_wp2_with fail
    all_goals first | (exfalso; omega) | (go_ret2; exact ⟨y, x, rfl, by omega, HR.out.1, ((Only.refl _ _).alloc _).drewN _⟩)
end Go.Proofs.Ytdefgoiankabeaa
