/-
  Layer 12: Order, the reference's Order, Same, Fits.
-/
import Derived.Test.YtdepjmneoplicaaLf
namespace Go.Proofs.Ytdepjmneoplicaa
open Go.RowKit Go.Maps
set_option linter.unusedVariables false
set_option linter.unusedSimpArgs false
namespace Fl
/-- -1, 0, 1. -/
def od (x y : Nat) : Int := if nn x then (if nn y then 0 else -1) else if nn y then 1 else if rk x < rk y then -1 else if rk y < rk x then 1 else 0
/-- how two stand to one another, case by case. -/
theorem od_cases {x y : Nat} (hx : x < 18446744073709551616) (hy : y < 18446744073709551616) :
    (Ieee.double.order x y = none ∧ od x y = fl (nn y) - fl (nn x)) ∨ (Ieee.double.order x y = some .lt ∧ nn x = false ∧ nn y = false ∧ od x y = -1) ∨ (Ieee.double.order x y = some .gt ∧ nn x = false ∧ nn y = false ∧ od x y = 1) ∨ (Ieee.double.order x y = some .eq ∧ nn x = false ∧ nn y = false ∧ od x y = fl (neg y) - fl (neg x)) := by
  cases a : nn x
  · cases b : nn y
    · right
      have e := order_key hx hy (nn_f a) (nn_f b)
      have lx : rung x < 9223372036854775808 := by unfold rung; omega
      have ly : rung y < 9223372036854775808 := by unfold rung; omega
      have kx : key x = if neg x then -(rung x : Int) else rung x := rfl
      have ky : key y = if neg y then -(rung y : Int) else rung y := rfl
      have rx : rk x = if neg x then -(rung x : Int) - 1 else rung x := rfl
      have ry : rk y = if neg y then -(rung y : Int) - 1 else rung y := rfl
      have o : od x y = if rk x < rk y then -1 else if rk y < rk x then 1 else 0 := by unfold od; rw [a, b]; rfl
      rw [o]
      generalize rk x = p at *
      generalize rk y = q at *
      generalize key x = p' at *
      generalize key y = q' at *
      generalize rung x = r at *
      generalize rung y = s at *
      rw [e]
      rcases Int.lt_trichotomy p' q' with g | g | g
      · left
        have h := cmp_lt p' q'
        rw [decide_eq_true g] at h
        refine ⟨by simpa using h, rfl, rfl, ?_⟩
        cases h1 : neg x <;> cases h2 : neg y <;> rw [h1] at kx rx <;> rw [h2] at ky ry <;> simp at kx rx ky ry <;> rw [if_pos (by omega)]
      · right; right
        have h := cmp_eq p' q'
        rw [decide_eq_true g] at h
        refine ⟨by simpa using h, rfl, rfl, ?_⟩
        simp only [fl]
        cases h1 : neg x <;> cases h2 : neg y <;> rw [h1] at kx rx <;> rw [h2] at ky ry <;> simp at kx rx ky ry <;> simp <;> ((repeat' split) <;> omega)
      · right; left
        have h := cmp_gt p' q'
        rw [decide_eq_true g] at h
        refine ⟨by simpa using h, rfl, rfl, ?_⟩
        cases h1 : neg x <;> cases h2 : neg y <;> rw [h1] at kx rx <;> rw [h2] at ky ry <;> simp at kx rx ky ry <;> rw [if_neg (by omega), if_pos (by omega)]
    · left
      refine ⟨order_nan2 hy (nn_t b), ?_⟩
      unfold od; rw [a, b]; rfl
  · left
    refine ⟨order_nan1 hx (nn_t a), ?_⟩
    unfold od; rw [a]; cases nn y <;> rfl
end Fl
theorem ret_int {a b : Int} (h : a = b) : Ending.returned (.int .i64 a) = .returned (.int .i64 b) := by rw [h]
theorem beq_cast (x y : Nat) : ((x : Int) == (y : Int)) = (x == y) := by
  by_cases h : x = y
  · subst h; simp
  · have : (x : Int) ≠ y := by omega
    rw [beq_eq_false_iff_ne.2 h, beq_eq_false_iff_ne.2 this]
/-- alike to the bit, or both no number. -/
def Fl.sm (x y : Nat) : Bool := (Fl.nn x && Fl.nn y) || x == y
set_option maxRecDepth 100000 in
set_option maxHeartbeats 1000000 in
theorem fits_any (x y : Nat) (w : World) : Calls Try.prog 58 #[.float .f64 x, .float .f64 y] w fun e w' => e = .returned (.bool (!(FloatKind.f64.format.order x y == some .gt))) ∧ w = w' := by
  go_enter Try.func58, Try.ntmps58
  go_wp2_with fail
  go_ret
  exact ⟨rfl, rfl⟩
end Go.Proofs.Ytdepjmneoplicaa

