/-
  Layer 12's leaves: what is no number, signs, ranks, the edges' numbers.
-/
import Derived.Test.YtdepjmneoplicaaFl
import Derived.Test.YtdepjmneoplicaaVb
import Derived.Laws.FloatArith
namespace Go.Proofs.Ytdepjmneoplicaa
open Go.RowKit Go.Maps
set_option linter.unusedVariables false
set_option linter.unusedSimpArgs false
namespace Fl
/-- is it no number? -/
def nn (x : Nat) : Bool := decide (inf < rung x)
theorem nn_t {x : Nat} (h : nn x = true) : inf < rung x := of_decide_eq_true h
theorem nn_f {x : Nat} (h : nn x = false) : rung x ≤ inf := Nat.le_of_not_lt (of_decide_eq_false h)
theorem fmt : FloatKind.f64.format = Ieee.double := rfl
theorem neq_self {x : Nat} (hx : x < 18446744073709551616) : (FloatKind.f64.format.order x x != some .eq) = nn x := by
  rw [fmt]
  cases h : nn x
  · rw [order_key hx hx (nn_f h) (nn_f h)]
    have := cmp_eq (key x) (key x)
    rw [decide_eq_true rfl] at this
    unfold bne
    rw [this]
    rfl
  · rw [order_nan1 hx (nn_t h)]
    rfl
def fl (b : Bool) : Int := if b then 1 else 0
theorem fl_le (b : Bool) : 0 ≤ fl b ∧ fl b ≤ 1 := by cases b <;> decide
end Fl
theorem wi (x : Int) : IntKind.i64.wrap x = if 9223372036854775808 ≤ x % 18446744073709551616 then x % 18446744073709551616 - 18446744073709551616 else x % 18446744073709551616 := by simp [IntKind.wrap, IntKind.signed, IntKind.bits]
theorem uw (x : Nat) (h : x < 18446744073709551616) : IntKind.u64.wrap (x : Int) = x := by
  have : IntKind.u64.wrap (x : Int) = (x : Int) % 18446744073709551616 := by simp [IntKind.wrap, IntKind.signed, IntKind.bits]
  rw [this]; omega
theorem bv_mod (x : Nat) (hx : x < 18446744073709551616) : ((BitVec.ofInt 64 (x : Int)) &&& (BitVec.ofInt 64 9223372036854775807)).toNat = Fl.rung x := by
  have e1 : (BitVec.ofInt 64 (x : Int)).toNat = x := by
    rw [BitVec.toNat_ofInt]
    omega
  have e2 : (BitVec.ofInt 64 9223372036854775807).toNat = 2 ^ 63 - 1 := by decide
  rw [BitVec.toNat_and, e1, e2, Nat.and_two_pow_sub_one_eq_mod]
  rfl
theorem bits_low (x : Nat) (hx : x < 18446744073709551616) : bits .and .u64 (x : Int) 9223372036854775807 = (Fl.rung x : Int) := by
  have l : Fl.rung x < 18446744073709551616 := by unfold Fl.rung; omega
  show IntKind.u64.wrap (((BitVec.ofInt 64 (x : Int)) &&& (BitVec.ofInt 64 9223372036854775807)).toNat : Int) = _
  rw [bv_mod x hx, uw _ l]
theorem bits_off (x : Nat) (hx : x < 18446744073709551616) : bits .andNot .u64 (x : Int) 9223372036854775808 = (Fl.rung x : Int) := by
  have l : Fl.rung x < 18446744073709551616 := by unfold Fl.rung; omega
  have e : ~~~ (BitVec.ofInt 64 9223372036854775808) = BitVec.ofInt 64 9223372036854775807 := by decide
  show IntKind.u64.wrap (((BitVec.ofInt 64 (x : Int)) &&& ~~~ (BitVec.ofInt 64 9223372036854775808)).toNat : Int) = _
  rw [e, bv_mod x hx, uw _ l]
theorem bits_run (x : Nat) (w : World) : (callFunc 63 #[.float .f64 x]).run Try.prog w = .ok (.value (.int .u64 (x : Int))) w := by
  rw [run_callFunc_extern Try.func63 (by kernel_rfl) (by kernel_rfl) (by kernel_rfl) (e := Extern.MathFloatBits.float64bits) (by kernel_rfl)]
  rfl
theorem from_run (n : Int) (w : World) : (callFunc 67 #[.int .u64 n]).run Try.prog w = .ok (.value (.float .f64 n.toNat)) w := by
  rw [run_callFunc_extern Try.func67 (by kernel_rfl) (by kernel_rfl) (by kernel_rfl) (e := Extern.MathFloatBits.float64frombits) (by kernel_rfl)]
  rfl
set_option maxRecDepth 100000 in
set_option maxHeartbeats 400000 in
theorem isNaN_any (x : Nat) (hx : x < 18446744073709551616) (w : World) : Calls Try.prog 65 #[.float .f64 x] w fun e w' => e = .returned (.bool (Fl.nn x)) ∧ w = w' := by
  have H := Fl.neq_self hx
  go_enter Try.func65, Try.ntmps65
  go_wp2
  go_ret
  exact ⟨rfl, rfl⟩
set_option maxRecDepth 100000 in
set_option maxHeartbeats 400000 in
theorem none_any (x : Nat) (hx : x < 18446744073709551616) (w : World) : Calls Try.prog 50 #[.float .f64 x] w fun e w' => e = .returned (.bool (Fl.nn x)) ∧ w = w' := by
  have H := Fl.neq_self hx
  go_enter Try.func50, Try.ntmps50
  go_wp2
  go_ret
  exact ⟨rfl, rfl⟩
set_option maxRecDepth 100000 in
set_option maxHeartbeats 400000 in
theorem minus_any (x : Nat) (hx : x < 18446744073709551616) (w : World) : Calls Try.prog 51 #[.float .f64 x] w fun e w' => e = .returned (.bool (Fl.neg x)) ∧ w = w' := by
  have H := bits_run x
  go_enter Try.func51, Try.ntmps51
  go_wp2
  go_ret
  refine ⟨?_, rfl⟩
  have e : ((x : Int) / 9223372036854775808 == 1) = Fl.neg x := by
    unfold Fl.neg
    by_cases h : 9223372036854775808 ≤ x
    · have : (x : Int) / 9223372036854775808 = 1 := by omega
      rw [this, decide_eq_true h]; rfl
    · have : (x : Int) / 9223372036854775808 = 0 := by omega
      rw [this, decide_eq_false h]; rfl
  exact congrArg (fun b => Ending.returned (.bool b)) e
set_option maxRecDepth 100000 in
set_option maxHeartbeats 400000 in
theorem abs_any (x : Nat) (hx : x < 18446744073709551616) (w : World) : Calls Try.prog 66 #[.float .f64 x] w fun e w' => e = .returned (.float .f64 (Fl.rung x)) ∧ w = w' := by
  have H := bits_run x
  have H2 := from_run
  go_enter Try.func66, Try.ntmps66
  go_wp2
  go_ret
  exact ⟨congrArg (fun b => Ending.returned (.float .f64 b)) (by rw [bits_off x hx]; rfl), rfl⟩
/-- numbers as whole ones that stand as they do. -/
def Fl.rk (x : Nat) : Int := if Fl.neg x then -(Fl.rung x : Int) - 1 else Fl.rung x
end Go.Proofs.Ytdepjmneoplicaa

