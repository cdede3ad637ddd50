/-
  Two boundaries of a text, as the statements draw them.
-/
import Derived.Test.YtdepjmneoplicaaSa2
namespace Go.Proofs.Ytdepjmneoplicaa
open Go.RowKit Go.Maps
set_option linter.unusedVariables false
set_option linter.unusedSimpArgs false
theorem wrap_smallu (x : Int) (h0 : 0 ≤ x) (h1 : x < 2 ^ 64) : IntKind.u64.wrap x = x := by
  simp only [IntKind.wrap, IntKind.bits, IntKind.signed]
  simp
  omega
theorem wrap_small (x : Int) (h0 : 0 ≤ x) (h1 : x < 2 ^ 63) : IntKind.i64.wrap x = x := by
  simp only [IntKind.wrap, IntKind.bits, IntKind.signed]
  simp
  omega
theorem wrap_u64_nn (x : Int) : 0 ≤ IntKind.u64.wrap x := by
  simp only [IntKind.wrap, IntKind.bits, IntKind.signed]
  simp
  omega
/-- a number taken as one below n. -/
theorem drawn (a : Int) (n : Nat) (h : 0 < n) : ∃ (u : Int) (x : Nat), IntKind.u64.wrap a = u ∧ u.tmod (n : Int) = (x : Int) ∧ x < n := by
  have p5 := wrap_u64_nn a
  have p0 : (0 : Int) < (n : Int) := by omega
  have q := Int.tmod_nonneg (n : Int) p5
  have b := Int.tmod_lt_of_pos (IntKind.u64.wrap a) p0
  exact ⟨_, ((IntKind.u64.wrap a).tmod (n : Int)).toNat, rfl, by omega, by omega⟩
end Go.Proofs.Ytdepjmneoplicaa

