/-
  Layer 12: Badness, both ways.
-/
import Derived.Test.YtdepjmneoplicaaAr
namespace Go.Proofs.Ytdepjmneoplicaa
open Go.RowKit Go.Maps
set_option linter.unusedVariables false
set_option linter.unusedSimpArgs false
namespace Fl
def bd (x : Nat) : Int := if nn x then 0 else (bad (rung x) : Int)
theorem run_mul {x y r : Nat} (h : Ieee.double.mul x y = some r) : ∀ W, (binOp .mul 24 (.float .f64 x) (.float .f64 y)).run Try.prog W = .ok (.float .f64 r) W := fun W => run_float_arith W .mul 24 .f64 x y r h
theorem cmp_l {a b : Int} (h : a < b) : compare a b = .lt := by
  rw [compare, instOrdInt]; simp [compareOfLessAndEq, h]
theorem cmp_g {a b : Int} (h : b < a) : compare a b = .gt := by
  have n1 : ¬ a < b := by omega
  have n2 : ¬ a = b := by omega
  rw [compare, instOrdInt]; simp [compareOfLessAndEq, n1, n2]
theorem cmp_e {a b : Int} (h : a = b) : compare a b = .eq := by
  subst h
  rw [compare, instOrdInt]; simp [compareOfLessAndEq]
theorem key_low {z : Nat} (h : z ≤ inf) : key z = (z : Int) := by
  obtain ⟨a1, a2, a3⟩ := rung_low h
  rw [key_sg, a1, a2]; rfl
theorem order_low {x y : Nat} (hx : x ≤ inf) (hy : y ≤ inf) : FloatKind.f64.format.order x y = some (compare (x : Int) (y : Int)) := by
  obtain ⟨a1, a2, a3⟩ := rung_low hx
  obtain ⟨b1, b2, b3⟩ := rung_low hy
  have e := order_key a3 b3 (by rw [a1]; exact hx) (by rw [b1]; exact hy)
  rw [key_low hx, key_low hy] at e
  exact e
theorem most_le : most ≤ inf := by decide
theorem ge_most {z : Nat} (h : z ≤ inf) : (z < most → FloatKind.f64.format.order z most = some .lt) ∧ (most ≤ z → ∃ c, (c = .gt ∨ c = .eq) ∧ FloatKind.f64.format.order z most = some c) := by
  rw [order_low h most_le]
  generalize most = m
  constructor
  · intro g
    rw [cmp_l (by omega)]
  · intro g
    rcases Nat.lt_or_ge m z with g2 | g2
    · exact ⟨.gt, Or.inl rfl, by rw [cmp_g (by omega)]⟩
    · exact ⟨.eq, Or.inr rfl, by rw [cmp_e (by omega)]⟩
theorem conv_low {z : Nat} (h : z < most) : ∀ W, (convert 24 3 (.float .f64 z)).run Try.prog W = .ok (.int .i64 ((mag z / 2 ^ lp : Nat) : Int)) W := by
  intro W
  have hz : z ≤ inf := Nat.le_of_lt (Nat.lt_trans h (by decide))
  obtain ⟨a1, a2, a3⟩ := rung_low hz
  have l : mag z / 2 ^ lp < 10000 := by
    have := mag_lt h
    rw [mag_most] at this
    exact (Nat.div_lt_iff_lt_mul (Nat.two_pow_pos _)).2 this
  refine run_convert_float_int W 24 3 .f64 .i64 z _ (by kernel_rfl) (by kernel_rfl) ?_
  unfold floatToIntVal
  have e : (FloatKind.f64.decode z).toInt .zero = some ((mag z / 2 ^ lp : Nat) : Int) := by
    have := toInt_fin a3 (by rw [a1]; exact Nat.lt_trans h (by decide))
    rw [a1, a2] at this
    exact this
  rw [e]
  have m1 : IntKind.i64.min = -9223372036854775808 := by decide
  have m2 : IntKind.i64.max = 9223372036854775807 := by decide
  rw [m1, m2]
  generalize mag z / 2 ^ lp = q at *
  exact if_pos (by omega)
end Fl
set_option maxRecDepth 100000 in
set_option maxHeartbeats 1000000 in
theorem badness_any (x : Nat) (hx : x < 18446744073709551616) (w : World) : Calls Try.prog 59 #[.float .f64 x] w fun e w' => e = .returned (.int .i64 (Fl.bd x)) ∧ w = w' := by
  have HN : Hid (∀ w, Calls Try.prog 65 #[.float .f64 x] w fun e w' => e = .returned (.bool (Fl.nn x)) ∧ w = w') := isNaN_any x hx
  have HA : Hid (∀ w, Calls Try.prog 66 #[.float .f64 x] w fun e w' => e = .returned (.float .f64 (Fl.rung x)) ∧ w = w') := abs_any x hx
  clear hx
  unfold Fl.bd
  cases c : Fl.nn x
  · rw [c] at HN
    have l := Fl.nn_f c
    rw [if_neg (by decide)]
    generalize Fl.rung x = a at *
    obtain ⟨s1, s2, s3⟩ := Fl.tri_steps l
    have m1 := Fl.run_mul s1
    have m2 := Fl.run_mul s2
    have m3 := Fl.run_mul s3
    clear s1 s2 s3
    generalize Fl.mi (Fl.mi Fl.hund a) a = z2 at *
    generalize Fl.mi Fl.hund a = z1 at *
    unfold Fl.hund at m1
    have lz := Fl.tri_le a
    obtain ⟨g1, g2⟩ := Fl.ge_most lz
    clear c l
    unfold Fl.bad
    by_cases h : Fl.most ≤ Fl.tri a
    · rw [if_pos h]
      obtain ⟨o, ho, e⟩ := g2 h
      unfold Fl.most at e
      clear g1 g2 lz
      generalize Fl.tri a = z at *
      clear h
      rcases ho with rfl | rfl
      · go_enter Try.func59, Try.ntmps59
        go_wp2_with fail
        refine Calls.mono (HN.out _) ?_
        rintro e w1 ⟨rfl, rfl⟩
        go_wp2_with fail
        refine Calls.mono (HA.out _) ?_
        rintro e w1 ⟨rfl, rfl⟩
        go_wp2_with fail
        go_ret
        exact ⟨rfl, rfl⟩
      · go_enter Try.func59, Try.ntmps59
        go_wp2_with fail
        refine Calls.mono (HN.out _) ?_
        rintro e w1 ⟨rfl, rfl⟩
        go_wp2_with fail
        refine Calls.mono (HA.out _) ?_
        rintro e w1 ⟨rfl, rfl⟩
        go_wp2_with fail
        go_ret
        exact ⟨rfl, rfl⟩
    · rw [if_neg h]
      have e := g1 (Nat.lt_of_not_le h)
      unfold Fl.most at e
      have hc := Fl.conv_low (Nat.lt_of_not_le h)
      clear g1 g2 lz h
      generalize Fl.mag (Fl.tri a) / 2 ^ Fl.lp = q at *
      generalize Fl.tri a = z at *
      go_enter Try.func59, Try.ntmps59
      go_wp2_with fail
      refine Calls.mono (HN.out _) ?_
      rintro e w1 ⟨rfl, rfl⟩
      go_wp2_with fail
      refine Calls.mono (HA.out _) ?_
      rintro e w1 ⟨rfl, rfl⟩
      go_wp2_with fail
      go_ret
      exact ⟨rfl, rfl⟩
  · rw [c] at HN
    clear c
    rw [if_pos (by decide)]
    go_enter Try.func59, Try.ntmps59
    go_wp2_with fail
    refine Calls.mono (HN.out _) ?_
    rintro e w1 ⟨rfl, rfl⟩
    go_wp2_with fail
    go_ret
    exact ⟨rfl, rfl⟩
end Go.Proofs.Ytdepjmneoplicaa

