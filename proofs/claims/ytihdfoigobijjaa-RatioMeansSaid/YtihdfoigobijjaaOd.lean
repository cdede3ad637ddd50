/-
  Layer 12: Order, the reference's Order, Same, Fits.
-/
import Derived.Test.YtihdfoigobijjaaLf
namespace Go.Proofs.Ytihdfoigobijjaa
open Go.RowKit Go.Maps
set_option linter.unusedVariables false
set_option linter.unusedSimpArgs false
namespace Fl
/-- -1, 0, 1. -/
def od (x y : Nat) : Int := if nn x then (if nn y then 0 else -1) else if nn y then 1 else if rk x < rk y then -1 else if rk y < rk x then 1 else 0
/-- how two stand to one another, case by case. -/
theorem od_cases {x y : Nat} (hx : x < 18446744073709551616) (hy : y < 18446744073709551616) :
    (Ieee.double.order x y = none ∧ od x y = fl (nn y) - fl (nn x)) ∨ (Ieee.double.order x y = some .lt ∧ nn x = false ∧ nn y = false ∧ od x y = -1) ∨ (Ieee.double.order x y = some .gt ∧ nn x = false ∧ nn y = false ∧ od x y = 1) ∨ (Ieee.double.order x y = some .eq ∧ nn x = false ∧ nn y = false ∧ od x y = fl (neg y) - fl (neg x)) := by
  cases a : nn x
  · cases b : nn y
    · right
      have e := order_key hx hy (nn_f a) (nn_f b)
      have lx : rung x < 9223372036854775808 := by unfold rung; omega
      have ly : rung y < 9223372036854775808 := by unfold rung; omega
      have kx : key x = if neg x then -(rung x : Int) else rung x := rfl
      have ky : key y = if neg y then -(rung y : Int) else rung y := rfl
      have rx : rk x = if neg x then -(rung x : Int) - 1 else rung x := rfl
      have ry : rk y = if neg y then -(rung y : Int) - 1 else rung y := rfl
      have o : od x y = if rk x < rk y then -1 else if rk y < rk x then 1 else 0 := by unfold od; rw [a, b]; rfl
      rw [o]
      generalize rk x = p at *
      generalize rk y = q at *
      generalize key x = p' at *
      generalize key y = q' at *
      generalize rung x = r at *
      generalize rung y = s at *
      rw [e]
      rcases Int.lt_trichotomy p' q' with g | g | g
      · left
        have h := cmp_lt p' q'
        rw [decide_eq_true g] at h
        refine ⟨by simpa using h, rfl, rfl, ?_⟩
        cases h1 : neg x <;> cases h2 : neg y <;> rw [h1] at kx rx <;> rw [h2] at ky ry <;> simp at kx rx ky ry <;> rw [if_pos (by omega)]
      · right; right
        have h := cmp_eq p' q'
        rw [decide_eq_true g] at h
        refine ⟨by simpa using h, rfl, rfl, ?_⟩
        simp only [fl]
        cases h1 : neg x <;> cases h2 : neg y <;> rw [h1] at kx rx <;> rw [h2] at ky ry <;> simp at kx rx ky ry <;> simp <;> ((repeat' split) <;> omega)
      · right; left
        have h := cmp_gt p' q'
        rw [decide_eq_true g] at h
        refine ⟨by simpa using h, rfl, rfl, ?_⟩
        cases h1 : neg x <;> cases h2 : neg y <;> rw [h1] at kx rx <;> rw [h2] at ky ry <;> simp at kx rx ky ry <;> rw [if_neg (by omega), if_pos (by omega)]
    · left
      refine ⟨order_nan2 hy (nn_t b), ?_⟩
      unfold od; rw [a, b]; rfl
  · left
    refine ⟨order_nan1 hx (nn_t a), ?_⟩
    unfold od; rw [a]; cases nn y <;> rfl
end Fl
theorem ret_int {a b : Int} (h : a = b) : Ending.returned (.int .i64 a) = .returned (.int .i64 b) := by rw [h]
set_option maxRecDepth 100000 in
set_option maxHeartbeats 1000000 in
theorem order_any (x y : Nat) (hx : x < 18446744073709551616) (hy : y < 18446744073709551616) (w : World) : Calls Try.prog 16 #[.float .f64 x, .float .f64 y] w fun e w' => e = .returned (.int .i64 (Fl.od x y)) ∧ ∃ n, w' = w.drewN n := by
  have HN : Hid (∀ x, x < 18446744073709551616 → ∀ w, Calls Try.prog 31 #[.float .f64 x] w fun e w' => e = .returned (.bool (Fl.nn x)) ∧ w = w') := isNaN_any
  have HS : Hid (∀ x, x < 18446744073709551616 → ∀ w, Calls Try.prog 35 #[.float .f64 x] w fun e w' => e = .returned (.bool (Fl.neg x)) ∧ w = w') := signbit_any
  have HF : Hid (∀ b w, Calls Try.prog 34 #[.bool b] w fun e w' => e = .returned (.int .i64 (Fl.fl b)) ∧ w = w') := flag_any
  have Hx : Hid (x < 18446744073709551616) := hx
  have Hy : Hid (y < 18446744073709551616) := hy
  clear hx hy
  rcases Fl.od_cases Hx.out Hy.out with ⟨c, o⟩ | ⟨c, -, -, o⟩ | ⟨c, -, -, o⟩ | ⟨c, -, -, o⟩
  · rw [← Fl.fmt] at c
    rw [o]
    clear o
    have HFy := HF.out (Fl.nn y)
    have HFx := HF.out (Fl.nn x)
    obtain ⟨l1, l2⟩ := Fl.fl_le (Fl.nn x)
    obtain ⟨l3, l4⟩ := Fl.fl_le (Fl.nn y)
    have HFY : Hid (∀ w, Calls Try.prog 34 #[.bool (Fl.nn y)] w fun e w' => e = .returned (.int .i64 (Fl.fl (Fl.nn y))) ∧ w = w') := HFy
    have HFX : Hid (∀ w, Calls Try.prog 34 #[.bool (Fl.nn x)] w fun e w' => e = .returned (.int .i64 (Fl.fl (Fl.nn x))) ∧ w = w') := HFx
    clear HFy HFx HF
    have HNy : Hid (∀ w, Calls Try.prog 31 #[.float .f64 y] w fun e w' => e = .returned (.bool (Fl.nn y)) ∧ w = w') := HN.out y Hy.out
    have HNx : Hid (∀ w, Calls Try.prog 31 #[.float .f64 x] w fun e w' => e = .returned (.bool (Fl.nn x)) ∧ w = w') := HN.out x Hx.out
    generalize Fl.fl (Fl.nn x) = fx at *
    generalize Fl.fl (Fl.nn y) = fy at *
    generalize Fl.nn x = gx at *
    generalize Fl.nn y = gy at *
    go_enter Try.func16, Try.ntmps16
    go_wp2_with fail
    refine Calls.mono (HNy.out _) ?_
    rintro e w1 ⟨rfl, rfl⟩
    go_wp2_with fail
    refine Calls.mono (HFY.out _) ?_
    rintro e w1 ⟨rfl, rfl⟩
    go_wp2_with fail
    refine Calls.mono (HNx.out _) ?_
    rintro e w1 ⟨rfl, rfl⟩
    go_wp2_with fail
    refine Calls.mono (HFX.out _) ?_
    rintro e w1 ⟨rfl, rfl⟩
    go_wp2_with fail
    go_ret
    exact ⟨rfl, 0, rfl⟩
  · rw [← Fl.fmt] at c
    rw [o]
    go_enter Try.func16, Try.ntmps16
    go_wp2_with fail
    go_ret
    exact ⟨rfl, 0, rfl⟩
  · rw [← Fl.fmt] at c
    rw [o]
    go_enter Try.func16, Try.ntmps16
    go_wp2_with fail
    go_ret
    exact ⟨rfl, 0, rfl⟩
  · rw [← Fl.fmt] at c
    rw [o]
    clear o
    have HFy := HF.out (Fl.neg y)
    have HFx := HF.out (Fl.neg x)
    obtain ⟨l1, l2⟩ := Fl.fl_le (Fl.neg x)
    obtain ⟨l3, l4⟩ := Fl.fl_le (Fl.neg y)
    have HFY : Hid (∀ w, Calls Try.prog 34 #[.bool (Fl.neg y)] w fun e w' => e = .returned (.int .i64 (Fl.fl (Fl.neg y))) ∧ w = w') := HFy
    have HFX : Hid (∀ w, Calls Try.prog 34 #[.bool (Fl.neg x)] w fun e w' => e = .returned (.int .i64 (Fl.fl (Fl.neg x))) ∧ w = w') := HFx
    clear HFy HFx HF
    have HNy : Hid (∀ w, Calls Try.prog 35 #[.float .f64 y] w fun e w' => e = .returned (.bool (Fl.neg y)) ∧ w = w') := HS.out y Hy.out
    have HNx : Hid (∀ w, Calls Try.prog 35 #[.float .f64 x] w fun e w' => e = .returned (.bool (Fl.neg x)) ∧ w = w') := HS.out x Hx.out
    generalize Fl.fl (Fl.neg x) = fx at *
    generalize Fl.fl (Fl.neg y) = fy at *
    generalize Fl.neg x = gx at *
    generalize Fl.neg y = gy at *
    go_enter Try.func16, Try.ntmps16
    go_wp2_with fail
    refine Calls.mono (HNy.out _) ?_
    rintro e w1 ⟨rfl, rfl⟩
    go_wp2_with fail
    refine Calls.mono (HFY.out _) ?_
    rintro e w1 ⟨rfl, rfl⟩
    go_wp2_with fail
    refine Calls.mono (HNx.out _) ?_
    rintro e w1 ⟨rfl, rfl⟩
    go_wp2_with fail
    refine Calls.mono (HFX.out _) ?_
    rintro e w1 ⟨rfl, rfl⟩
    go_wp2_with fail
    go_ret
    exact ⟨rfl, 0, rfl⟩
theorem beq_cast (x y : Nat) : ((x : Int) == (y : Int)) = (x == y) := by
  by_cases h : x = y
  · subst h; simp
  · have : (x : Int) ≠ y := by omega
    rw [beq_eq_false_iff_ne.2 h, beq_eq_false_iff_ne.2 this]
/-- alike to the bit, or both no number. -/
def Fl.sm (x y : Nat) : Bool := (Fl.nn x && Fl.nn y) || x == y
set_option maxRecDepth 100000 in
set_option maxHeartbeats 1000000 in
theorem same_any (x y : Nat) (hx : x < 18446744073709551616) (hy : y < 18446744073709551616) (w : World) : Calls Try.prog 14 #[.float .f64 x, .float .f64 y] w fun e w' => e = .returned (.bool (Fl.sm x y)) ∧ ∃ n, w' = w.drewN n := by
  have HN : Hid (∀ x, x < 18446744073709551616 → ∀ w, Calls Try.prog 32 #[.float .f64 x] w fun e w' => e = .returned (.bool (Fl.nn x)) ∧ w = w') := none_any
  have HB := bits_run x
  have HB2 := bits_run y
  have Hx : Hid (x < 18446744073709551616) := hx
  have Hy : Hid (y < 18446744073709551616) := hy
  clear hx hy
  unfold Fl.sm
  cases c1 : Fl.nn x
  · have H1 := HN.out x Hx.out
    rw [c1] at H1
    have HH : Hid (∀ w, Calls Try.prog 32 #[.float .f64 x] w fun e w' => e = .returned (.bool false) ∧ w = w') := H1
    clear H1 c1
    go_enter Try.func14, Try.ntmps14
    go_wp2_with fail
    refine Calls.mono (HH.out _) ?_
    rintro e w1 ⟨rfl, rfl⟩
    go_wp2_with fail
    go_ret
    exact ⟨congrArg (fun b => Ending.returned (.bool b)) (by rw [Bool.false_and, Bool.false_or, beq_cast]), 0, rfl⟩
  · have H1 := HN.out x Hx.out
    rw [c1] at H1
    have HH : Hid (∀ w, Calls Try.prog 32 #[.float .f64 x] w fun e w' => e = .returned (.bool true) ∧ w = w') := H1
    clear H1 c1
    cases c2 : Fl.nn y
    · have H1 := HN.out y Hy.out
      rw [c2] at H1
      have HH2 : Hid (∀ w, Calls Try.prog 32 #[.float .f64 y] w fun e w' => e = .returned (.bool false) ∧ w = w') := H1
      clear H1 c2
      go_enter Try.func14, Try.ntmps14
      go_wp2_with fail
      refine Calls.mono (HH.out _) ?_
      rintro e w1 ⟨rfl, rfl⟩
      go_wp2_with fail
      refine Calls.mono (HH2.out _) ?_
      rintro e w1 ⟨rfl, rfl⟩
      go_wp2_with fail
      go_ret
      exact ⟨congrArg (fun b => Ending.returned (.bool b)) (by rw [Bool.and_false, Bool.false_or, beq_cast]), 0, rfl⟩
    · have H1 := HN.out y Hy.out
      rw [c2] at H1
      have HH2 : Hid (∀ w, Calls Try.prog 32 #[.float .f64 y] w fun e w' => e = .returned (.bool true) ∧ w = w') := H1
      clear H1 c2
      go_enter Try.func14, Try.ntmps14
      go_wp2_with fail
      refine Calls.mono (HH.out _) ?_
      rintro e w1 ⟨rfl, rfl⟩
      go_wp2_with fail
      refine Calls.mono (HH2.out _) ?_
      rintro e w1 ⟨rfl, rfl⟩
      go_wp2_with fail
      go_ret
      exact ⟨rfl, 0, rfl⟩
set_option maxRecDepth 100000 in
set_option maxHeartbeats 1000000 in
theorem fits_any (x y : Nat) (w : World) : Calls Try.prog 13 #[.float .f64 x, .float .f64 y] w fun e w' => e = .returned (.bool (!(FloatKind.f64.format.order x y == some .gt))) ∧ w = w' := by
  go_enter Try.func13, Try.ntmps13
  go_wp2_with fail
  go_ret
  exact ⟨rfl, rfl⟩
set_option maxRecDepth 100000 in
set_option maxHeartbeats 1000000 in
theorem refOrder_any (x y : Nat) (hx : x < 18446744073709551616) (hy : y < 18446744073709551616) (w : World) : Calls Try.prog 17 #[.float .f64 x, .float .f64 y] w fun e w' => e = .returned (.int .i64 (Fl.od x y)) ∧ ∃ n, w' = w.drewN n := by
  have HN : Hid (∀ w, Calls Try.prog 32 #[.float .f64 x] w fun e w' => e = .returned (.bool (Fl.nn x)) ∧ w = w') := none_any x hx
  have HN2 : Hid (∀ w, Calls Try.prog 32 #[.float .f64 y] w fun e w' => e = .returned (.bool (Fl.nn y)) ∧ w = w') := none_any y hy
  have HR : Hid (∀ w, Calls Try.prog 36 #[.float .f64 x] w fun e w' => e = .returned (.int .i64 (Fl.rk x)) ∧ w = w') := rank_any x hx
  have HR2 : Hid (∀ w, Calls Try.prog 36 #[.float .f64 y] w fun e w' => e = .returned (.int .i64 (Fl.rk y)) ∧ w = w') := rank_any y hy
  clear hx hy
  unfold Fl.od
  generalize Fl.rk x = p at *
  generalize Fl.rk y = q at *
  cases c1 : Fl.nn x <;> rw [c1] at HN <;> cases c2 : Fl.nn y <;> rw [c2] at HN2 <;> clear c1 c2
  · rcases Int.lt_trichotomy p q with g | g | g
    · rw [if_neg (by decide), if_neg (by decide), if_pos g]
      go_enter Try.func17, Try.ntmps17
      go_wp2_with fail
      refine Calls.mono (HN.out _) ?_
      rintro e w1 ⟨rfl, rfl⟩
      go_wp2_with fail
      refine Calls.mono (HN.out _) ?_
      rintro e w1 ⟨rfl, rfl⟩
      go_wp2_with fail
      refine Calls.mono (HN2.out _) ?_
      rintro e w1 ⟨rfl, rfl⟩
      go_wp2_with fail
      refine Calls.mono (HR.out _) ?_
      rintro e w1 ⟨rfl, rfl⟩
      go_wp2_with fail
      refine Calls.mono (HR2.out _) ?_
      rintro e w1 ⟨rfl, rfl⟩
      go_wp2_with fail
      go_ret
      exact ⟨rfl, 0, rfl⟩
    · have n1 : decide (p < q) = false := decide_eq_false (by omega)
      have n2 : decide (q < p) = false := decide_eq_false (by omega)
      rw [if_neg (by decide), if_neg (by decide), if_neg (by omega), if_neg (by omega)]
      clear g
      go_enter Try.func17, Try.ntmps17
      go_wp2_with fail
      refine Calls.mono (HN.out _) ?_
      rintro e w1 ⟨rfl, rfl⟩
      go_wp2_with fail
      refine Calls.mono (HN.out _) ?_
      rintro e w1 ⟨rfl, rfl⟩
      go_wp2_with fail
      refine Calls.mono (HN2.out _) ?_
      rintro e w1 ⟨rfl, rfl⟩
      go_wp2_with fail
      refine Calls.mono (HR.out _) ?_
      rintro e w1 ⟨rfl, rfl⟩
      go_wp2_with fail
      refine Calls.mono (HR2.out _) ?_
      rintro e w1 ⟨rfl, rfl⟩
      go_wp2_with fail
      refine Calls.mono (HR.out _) ?_
      rintro e w1 ⟨rfl, rfl⟩
      go_wp2_with fail
      refine Calls.mono (HR2.out _) ?_
      rintro e w1 ⟨rfl, rfl⟩
      go_wp2_with fail
      go_ret
      exact ⟨rfl, 0, rfl⟩
    · have n1 : decide (p < q) = false := decide_eq_false (by omega)
      rw [if_neg (by decide), if_neg (by decide), if_neg (by omega), if_pos g]
      go_enter Try.func17, Try.ntmps17
      go_wp2_with fail
      refine Calls.mono (HN.out _) ?_
      rintro e w1 ⟨rfl, rfl⟩
      go_wp2_with fail
      refine Calls.mono (HN.out _) ?_
      rintro e w1 ⟨rfl, rfl⟩
      go_wp2_with fail
      refine Calls.mono (HN2.out _) ?_
      rintro e w1 ⟨rfl, rfl⟩
      go_wp2_with fail
      refine Calls.mono (HR.out _) ?_
      rintro e w1 ⟨rfl, rfl⟩
      go_wp2_with fail
      refine Calls.mono (HR2.out _) ?_
      rintro e w1 ⟨rfl, rfl⟩
      go_wp2_with fail
      refine Calls.mono (HR.out _) ?_
      rintro e w1 ⟨rfl, rfl⟩
      go_wp2_with fail
      refine Calls.mono (HR2.out _) ?_
      rintro e w1 ⟨rfl, rfl⟩
      go_wp2_with fail
      go_ret
      exact ⟨rfl, 0, rfl⟩
  · rw [if_neg (by decide), if_pos (by decide)]
    go_enter Try.func17, Try.ntmps17
    go_wp2_with fail
    refine Calls.mono (HN.out _) ?_
    rintro e w1 ⟨rfl, rfl⟩
    go_wp2_with fail
    refine Calls.mono (HN.out _) ?_
    rintro e w1 ⟨rfl, rfl⟩
    go_wp2_with fail
    refine Calls.mono (HN2.out _) ?_
    rintro e w1 ⟨rfl, rfl⟩
    go_wp2_with fail
    go_ret
    exact ⟨rfl, 0, rfl⟩
  · rw [if_pos (by decide), if_neg (by decide)]
    go_enter Try.func17, Try.ntmps17
    go_wp2_with fail
    refine Calls.mono (HN.out _) ?_
    rintro e w1 ⟨rfl, rfl⟩
    go_wp2_with fail
    refine Calls.mono (HN2.out _) ?_
    rintro e w1 ⟨rfl, rfl⟩
    go_wp2_with fail
    refine Calls.mono (HN.out _) ?_
    rintro e w1 ⟨rfl, rfl⟩
    go_wp2_with fail
    go_ret
    exact ⟨rfl, 0, rfl⟩
  · rw [if_pos (by decide), if_pos (by decide)]
    go_enter Try.func17, Try.ntmps17
    go_wp2_with fail
    refine Calls.mono (HN.out _) ?_
    rintro e w1 ⟨rfl, rfl⟩
    go_wp2_with fail
    refine Calls.mono (HN2.out _) ?_
    rintro e w1 ⟨rfl, rfl⟩
    go_wp2_with fail
    go_ret
    exact ⟨rfl, 0, rfl⟩
end Go.Proofs.Ytihdfoigobijjaa
