/-
  Layer 12's leaves: what is no number, signs, ranks, the edges' numbers.
-/
import Derived.Test.YtihdfoigobijjaaFl
import Derived.Test.YtihdfoigobijjaaVb
import Derived.Laws.FloatArith
namespace Go.Proofs.Ytihdfoigobijjaa
open Go.RowKit Go.Maps
set_option linter.unusedVariables false
set_option linter.unusedSimpArgs false
namespace Fl
/-- is it no number? -/
def nn (x : Nat) : Bool := decide (inf < rung x)
theorem nn_t {x : Nat} (h : nn x = true) : inf < rung x := of_decide_eq_true h
theorem nn_f {x : Nat} (h : nn x = false) : rung x ≤ inf := Nat.le_of_not_lt (of_decide_eq_false h)
theorem fmt : FloatKind.f64.format = Ieee.double := rfl
theorem neq_self {x : Nat} (hx : x < 18446744073709551616) : (FloatKind.f64.format.order x x != some .eq) = nn x := by
  rw [fmt]
  cases h : nn x
  · rw [order_key hx hx (nn_f h) (nn_f h)]
    have := cmp_eq (key x) (key x)
    rw [decide_eq_true rfl] at this
    unfold bne
    rw [this]
    rfl
  · rw [order_nan1 hx (nn_t h)]
    rfl
def fl (b : Bool) : Int := if b then 1 else 0
theorem fl_le (b : Bool) : 0 ≤ fl b ∧ fl b ≤ 1 := by cases b <;> decide
end Fl
theorem wi (x : Int) : IntKind.i64.wrap x = if 9223372036854775808 ≤ x % 18446744073709551616 then x % 18446744073709551616 - 18446744073709551616 else x % 18446744073709551616 := by simp [IntKind.wrap, IntKind.signed, IntKind.bits]
theorem uw (x : Nat) (h : x < 18446744073709551616) : IntKind.u64.wrap (x : Int) = x := by
  have : IntKind.u64.wrap (x : Int) = (x : Int) % 18446744073709551616 := by simp [IntKind.wrap, IntKind.signed, IntKind.bits]
  rw [this]; omega
theorem bv_mod (x : Nat) (hx : x < 18446744073709551616) : ((BitVec.ofInt 64 (x : Int)) &&& (BitVec.ofInt 64 9223372036854775807)).toNat = Fl.rung x := by
  have e1 : (BitVec.ofInt 64 (x : Int)).toNat = x := by
    rw [BitVec.toNat_ofInt]
    omega
  have e2 : (BitVec.ofInt 64 9223372036854775807).toNat = 2 ^ 63 - 1 := by decide
  rw [BitVec.toNat_and, e1, e2, Nat.and_two_pow_sub_one_eq_mod]
  rfl
theorem bits_low (x : Nat) (hx : x < 18446744073709551616) : bits .and .u64 (x : Int) 9223372036854775807 = (Fl.rung x : Int) := by
  have l : Fl.rung x < 18446744073709551616 := by unfold Fl.rung; omega
  show IntKind.u64.wrap (((BitVec.ofInt 64 (x : Int)) &&& (BitVec.ofInt 64 9223372036854775807)).toNat : Int) = _
  rw [bv_mod x hx, uw _ l]
theorem bits_off (x : Nat) (hx : x < 18446744073709551616) : bits .andNot .u64 (x : Int) 9223372036854775808 = (Fl.rung x : Int) := by
  have l : Fl.rung x < 18446744073709551616 := by unfold Fl.rung; omega
  have e : ~~~ (BitVec.ofInt 64 9223372036854775808) = BitVec.ofInt 64 9223372036854775807 := by decide
  show IntKind.u64.wrap (((BitVec.ofInt 64 (x : Int)) &&& ~~~ (BitVec.ofInt 64 9223372036854775808)).toNat : Int) = _
  rw [e, bv_mod x hx, uw _ l]
theorem bits_run (x : Nat) (w : World) : (callFunc 33 #[.float .f64 x]).run Try.prog w = .ok (.value (.int .u64 (x : Int))) w := by
  rw [run_callFunc_extern Try.func33 (by kernel_rfl) (by kernel_rfl) (by kernel_rfl) (e := Extern.MathFloatBits.float64bits) (by kernel_rfl)]
  rfl
theorem from_run (n : Int) (w : World) : (callFunc 37 #[.int .u64 n]).run Try.prog w = .ok (.value (.float .f64 n.toNat)) w := by
  rw [run_callFunc_extern Try.func37 (by kernel_rfl) (by kernel_rfl) (by kernel_rfl) (e := Extern.MathFloatBits.float64frombits) (by kernel_rfl)]
  rfl
set_option maxRecDepth 100000 in
set_option maxHeartbeats 400000 in
theorem isNaN_any (x : Nat) (hx : x < 18446744073709551616) (w : World) : Calls Try.prog 31 #[.float .f64 x] w fun e w' => e = .returned (.bool (Fl.nn x)) ∧ w = w' := by
  have H := Fl.neq_self hx
  go_enter Try.func31, Try.ntmps31
  go_wp2
  go_ret
  exact ⟨rfl, rfl⟩
set_option maxRecDepth 100000 in
set_option maxHeartbeats 400000 in
theorem none_any (x : Nat) (hx : x < 18446744073709551616) (w : World) : Calls Try.prog 32 #[.float .f64 x] w fun e w' => e = .returned (.bool (Fl.nn x)) ∧ w = w' := by
  have H := Fl.neq_self hx
  go_enter Try.func32, Try.ntmps32
  go_wp2
  go_ret
  exact ⟨rfl, rfl⟩
set_option maxRecDepth 100000 in
set_option maxHeartbeats 400000 in
theorem flag_any (b : Bool) (w : World) : Calls Try.prog 34 #[.bool b] w fun e w' => e = .returned (.int .i64 (Fl.fl b)) ∧ w = w' := by
  cases b
  · go_enter Try.func34, Try.ntmps34
    go_wp2
    go_ret
    exact ⟨rfl, rfl⟩
  · go_enter Try.func34, Try.ntmps34
    go_wp2
    go_ret
    exact ⟨rfl, rfl⟩
set_option maxRecDepth 100000 in
set_option maxHeartbeats 400000 in
theorem signbit_any (x : Nat) (hx : x < 18446744073709551616) (w : World) : Calls Try.prog 35 #[.float .f64 x] w fun e w' => e = .returned (.bool (Fl.neg x)) ∧ w = w' := by
  have H := bits_run x
  by_cases h : 9223372036854775808 ≤ x
  · have hn : Fl.neg x = true := decide_eq_true h
    obtain ⟨q, hq⟩ : ∃ q : Int, q = (x : Int) - 18446744073709551616 := ⟨_, rfl⟩
    have hw : IntKind.i64.wrap (x : Int) = q := by rw [hq, wi]; split <;> omega
    have q0 : q < 0 := by omega
    rw [hn]
    clear hq hn
    go_enter Try.func35, Try.ntmps35
    go_wp2
    go_ret
    exact ⟨rfl, rfl⟩
  · have hn : Fl.neg x = false := decide_eq_false h
    have hw : IntKind.i64.wrap (x : Int) = x := by rw [wi]; split <;> omega
    have q0 : decide ((x : Int) < 0) = false := decide_eq_false (by omega)
    rw [hn]
    clear hn
    go_enter Try.func35, Try.ntmps35
    go_wp2
    go_ret
    exact ⟨rfl, rfl⟩
set_option maxRecDepth 100000 in
set_option maxHeartbeats 400000 in
theorem minus_any (x : Nat) (hx : x < 18446744073709551616) (w : World) : Calls Try.prog 38 #[.float .f64 x] w fun e w' => e = .returned (.bool (Fl.neg x)) ∧ w = w' := by
  have H := bits_run x
  go_enter Try.func38, Try.ntmps38
  go_wp2
  go_ret
  refine ⟨?_, rfl⟩
  have e : ((x : Int) / 9223372036854775808 == 1) = Fl.neg x := by
    unfold Fl.neg
    by_cases h : 9223372036854775808 ≤ x
    · have : (x : Int) / 9223372036854775808 = 1 := by omega
      rw [this, decide_eq_true h]; rfl
    · have : (x : Int) / 9223372036854775808 = 0 := by omega
      rw [this, decide_eq_false h]; rfl
  exact congrArg (fun b => Ending.returned (.bool b)) e
set_option maxRecDepth 100000 in
set_option maxHeartbeats 400000 in
theorem abs_any (x : Nat) (hx : x < 18446744073709551616) (w : World) : Calls Try.prog 23 #[.float .f64 x] w fun e w' => e = .returned (.float .f64 (Fl.rung x)) ∧ w = w' := by
  have H := bits_run x
  have H2 := from_run
  go_enter Try.func23, Try.ntmps23
  go_wp2
  go_ret
  exact ⟨congrArg (fun b => Ending.returned (.float .f64 b)) (by rw [bits_off x hx]; rfl), rfl⟩
set_option maxRecDepth 100000 in
set_option maxHeartbeats 400000 in
theorem inf_pos (w : World) : Calls Try.prog 20 #[.int .i64 1] w fun e w' => e = .returned (.float .f64 Fl.inf) ∧ w = w' := by
  have H2 := from_run
  go_enter Try.func20, Try.ntmps20
  go_wp2
  go_ret
  exact ⟨rfl, rfl⟩
set_option maxRecDepth 100000 in
set_option maxHeartbeats 400000 in
theorem inf_neg (w : World) : Calls Try.prog 20 #[.int .i64 (-1)] w fun e w' => e = .returned (.float .f64 18442240474082181120) ∧ w = w' := by
  have H2 := from_run
  go_enter Try.func20, Try.ntmps20
  go_wp2
  go_ret
  exact ⟨rfl, rfl⟩
set_option maxRecDepth 100000 in
set_option maxHeartbeats 400000 in
theorem nan_any (w : World) : Calls Try.prog 19 #[] w fun e w' => e = .returned (.float .f64 9221120237041090561) ∧ w = w' := by
  have H2 := from_run
  go_enter Try.func19, Try.ntmps19
  go_wp2
  go_ret
  exact ⟨rfl, rfl⟩
set_option maxRecDepth 100000 in
set_option maxHeartbeats 400000 in
theorem copysign_any (w : World) : Calls Try.prog 18 #[.float .f64 0, .float .f64 13830554455654793216] w fun e w' => e = .returned (.float .f64 9223372036854775808) ∧ ∃ n, w' = w.drewN n := by
  have H := bits_run
  have H2 := from_run
  go_enter Try.func18, Try.ntmps18
  go_wp2
  all_goals go_ret
  exact ⟨by rfl, 0, rfl⟩
/-- numbers as whole ones that stand as they do. -/
def Fl.rk (x : Nat) : Int := if Fl.neg x then -(Fl.rung x : Int) - 1 else Fl.rung x
set_option maxRecDepth 100000 in
set_option maxHeartbeats 400000 in
theorem rank_any (x : Nat) (hx : x < 18446744073709551616) (w : World) : Calls Try.prog 36 #[.float .f64 x] w fun e w' => e = .returned (.int .i64 (Fl.rk x)) ∧ w = w' := by
  have H := bits_run x
  have HM : Hid (∀ w, Calls Try.prog 38 #[.float .f64 x] w fun e w' => e = .returned (.bool (Fl.neg x)) ∧ w = w') := minus_any x hx
  have B := bits_low x hx
  obtain ⟨r, hr⟩ : ∃ r, r = Fl.rung x := ⟨_, rfl⟩
  have l : r < 9223372036854775808 := by rw [hr]; unfold Fl.rung; omega
  unfold Fl.rk
  rw [← hr] at B ⊢
  clear hr hx
  cases hn : Fl.neg x
  · rw [hn] at HM
    clear hn
    go_enter Try.func36, Try.ntmps36
    go_wp2_with fail
    refine Calls.mono (HM.out _) ?_
    rintro e w1 ⟨rfl, rfl⟩
    go_wp2_with fail
    go_ret
    exact ⟨rfl, rfl⟩
  · rw [hn] at HM
    clear hn
    go_enter Try.func36, Try.ntmps36
    go_wp2_with fail
    refine Calls.mono (HM.out _) ?_
    rintro e w1 ⟨rfl, rfl⟩
    go_wp2_with fail
    go_ret
    exact ⟨rfl, rfl⟩
end Go.Proofs.Ytihdfoigobijjaa
