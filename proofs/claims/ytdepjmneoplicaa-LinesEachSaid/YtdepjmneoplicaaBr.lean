/-
  Layer 12: the reference's Badness.
-/
import Derived.Test.YtdepjmneoplicaaBd
namespace Go.Proofs.Ytdepjmneoplicaa
open Go.RowKit Go.Maps
set_option linter.unusedVariables false
set_option linter.unusedSimpArgs false
namespace Fl
/-- the other sign. -/
def ng (x : Nat) : Nat := x ^^^ 2 ^ 63
theorem ng_run (x : Nat) : Op.unary .neg (.float .f64 x) = pure (.float .f64 (ng x)) := rfl
theorem ng_rung (x : Nat) : rung (ng x) = rung x := by
  unfold rung ng
  have e : 9223372036854775808 = 2 ^ 63 := rfl
  rw [e, Nat.xor_mod_two_pow, Nat.mod_self, Nat.xor_zero]
theorem ng_lt {x : Nat} (hx : x < 18446744073709551616) : ng x < 18446744073709551616 := by
  have := @Nat.xor_lt_two_pow x (2 ^ 63) 64 (by omega) (by decide)
  unfold ng
  omega
theorem ng_low {x : Nat} (hx : x < 18446744073709551616) (h : neg x = true) : ng x = rung x := by
  have h1 := of_decide_eq_true h
  have d : ng x / 2 ^ 63 = 0 := by
    unfold ng
    rw [Nat.xor_div_two_pow]
    have : x / 2 ^ 63 = 1 := by omega
    rw [this]
    decide
  have m := ng_rung x
  have : rung (ng x) = ng x := by
    unfold rung
    exact Nat.mod_eq_of_lt (by omega)
  rw [← m, this]
theorem bd_ng {x : Nat} : bd (ng x) = bd x := by
  unfold bd nn
  rw [ng_rung]
theorem pos_low {x : Nat} (h : neg x = false) : x = rung x := by
  have := of_decide_eq_false h
  unfold rung
  omega
theorem ofI_low {n : Nat} (h : n < 9007199254740992) : floatOfInt .f64 (n : Int) = rd n 0 ∧ rd n 0 < inf := by
  obtain ⟨a, b, c, d, e⟩ := @ofI_eq (n : Int) (by omega)
  have ef : floatOfInt .f64 (n : Int) = ofI (n : Int) := rfl
  rw [Int.natAbs_natCast] at d
  have : neg (ofI (n : Int)) = false := by rw [e]; exact decide_eq_false (by omega)
  rw [ef, pos_low this, d]
  rw [d] at a
  exact ⟨rfl, a⟩
theorem cnt_step {a n : Nat} (h : tri a < most) (hn : n < 9007199254740992) : (n ≤ bad a → ∃ c, (c = .lt ∨ c = .eq) ∧ FloatKind.f64.format.order (floatOfInt .f64 (n : Int)) (tri a) = some c) ∧ (bad a < n → FloatKind.f64.format.order (floatOfInt .f64 (n : Int)) (tri a) = some .gt) := by
  obtain ⟨e1, e2⟩ := ofI_low hn
  have s := bad_step h hn
  rw [e1, order_low (Nat.le_of_lt e2) (tri_le a)]
  generalize rd n 0 = r at *
  generalize tri a = z at *
  generalize bad a = b at *
  constructor
  · intro g
    have := s.2 g
    rcases Nat.lt_or_ge r z with g2 | g2
    · exact ⟨.lt, Or.inl rfl, by rw [cmp_l (by omega)]⟩
    · exact ⟨.eq, Or.inr rfl, by rw [cmp_e (by omega)]⟩
  · intro g
    have : ¬ r ≤ z := fun k => by have := s.1 k; omega
    rw [cmp_g (by omega)]
end Fl
set_option maxRecDepth 100000 in
set_option maxHeartbeats 2000000 in
theorem refBad_num (x : Nat) (hx : x < 18446744073709551616) (c : Fl.nn x = false) (w : World) : Calls Try.prog 37 #[.float .f64 x] w fun e w' => e = .returned (.int .i64 (Fl.bad (Fl.rung x) : Int)) ∧ w = w' := by
  have HN : Hid (∀ w, Calls Try.prog 50 #[.float .f64 x] w fun e w' => e = .returned (.bool false) ∧ w = w') := by
    have := none_any x hx
    rw [c] at this
    exact this
  have HA : Hid (∀ w, Calls Try.prog 51 #[.float .f64 x] w fun e w' => e = .returned (.bool (Fl.neg x)) ∧ w = w') := minus_any x hx
  have l := Fl.nn_f c
  have hs : Hid ((Fl.neg x = true → Fl.ng x = Fl.rung x) ∧ (Fl.neg x = false → x = Fl.rung x)) := ⟨Fl.ng_low hx, Fl.pos_low⟩
  have hng := Fl.ng_run x
  clear hx c
  generalize Fl.rung x = a at *
  obtain ⟨s1, s2, s3⟩ := Fl.tri_steps l
  have m1 := Fl.run_mul s1
  have m2 := Fl.run_mul s2
  have m3 := Fl.run_mul s3
  clear s1 s2 s3
  generalize Fl.mi (Fl.mi Fl.hund a) a = z2 at *
  generalize Fl.mi Fl.hund a = z1 at *
  unfold Fl.hund at m1
  have lz := Fl.tri_le a
  obtain ⟨g1, g2⟩ := Fl.ge_most lz
  have HZ : Hid (∀ w, Calls Try.prog 50 #[.float .f64 (Fl.tri a)] w fun e w' => e = .returned (.bool false) ∧ w = w') := by
    have := none_any (Fl.tri a) (Fl.rung_low lz).2.2
    rw [show Fl.nn (Fl.tri a) = false from decide_eq_false (by rw [(Fl.rung_low lz).1]; exact Nat.not_lt.2 lz)] at this
    exact this
  by_cases h : Fl.most ≤ Fl.tri a
  · have hb : Fl.bad a = 10000 := if_pos h
    obtain ⟨o, ho, e⟩ := g2 h
    unfold Fl.most at e
    rw [hb]
    clear g1 g2 lz hb
    generalize Fl.tri a = z at *
    clear h
    cases hn : Fl.neg x
    · rw [hn] at HA
      have ex := hs.out.2 hn
      clear hs hn
      subst ex
      rcases ho with rfl | rfl
      all_goals
        go_enter Try.func37, Try.ntmps37
        go_wp2_with fail
        refine Calls.mono (HN.out _) ?_
        rintro e w1 ⟨rfl, rfl⟩
        go_wp2_with fail
        refine Calls.mono (HA.out _) ?_
        rintro e w1 ⟨rfl, rfl⟩
        go_wp2_with fail
        go_ret
        exact ⟨rfl, rfl⟩
    · rw [hn] at HA
      have ex := hs.out.1 hn
      rw [ex] at hng
      clear hs hn ex
      rcases ho with rfl | rfl
      all_goals
        go_enter Try.func37, Try.ntmps37
        go_wp2_with fail
        refine Calls.mono (HN.out _) ?_
        rintro e w1 ⟨rfl, rfl⟩
        go_wp2_with fail
        refine Calls.mono (HA.out _) ?_
        rintro e w1 ⟨rfl, rfl⟩
        go_wp2_with fail
        go_ret
        exact ⟨rfl, rfl⟩
  · have e := g1 (Nat.lt_of_not_le h)
    unfold Fl.most at e
    have HC : Hid (∀ n, n < 9007199254740992 → _) := fun n hn => @Fl.cnt_step a n (Nat.lt_of_not_le h) hn
    have hq := Fl.bad_le a
    clear g1 g2 lz h
    generalize Fl.bad a = q at *
    generalize Fl.tri a = z at *
    have HL : Hid (∀ (w : World), True) := fun _ => trivial
    cases hn : Fl.neg x
    · rw [hn] at HA
      have ex := hs.out.2 hn
      clear hs hn
      subst ex
      go_enter Try.func37, Try.ntmps37
      go_wp2_with fail
      refine Calls.mono (HN.out _) ?_
      rintro e w1 ⟨rfl, rfl⟩
      go_wp2_with fail
      refine Calls.mono (HA.out _) ?_
      rintro e w1 ⟨rfl, rfl⟩
      go_wp2_with fail
      refine Calls.mono (HZ.out _) ?_
      rintro e w1 ⟨rfl, rfl⟩
      go_wp2_with fail
      go_loopg [7] q (fun g v wr => ∃ (k : Nat), g = q - k ∧ k ≤ q ∧ v = .int .i64 (k : Int) ∧ wr = w)
      case atStart => exact ⟨0, rfl, Nat.zero_le _, rfl, rfl⟩
      case round =>
        obtain ⟨k, rfl, hk, rfl, rfl⟩ := hrel
        have hs := HC.out (k + 1) (by omega)
        rw [Int.natCast_add] at hs
        by_cases hlt : k + 1 ≤ q
        · obtain ⟨o, ho, he⟩ := hs.1 hlt
          clear hs
          have he' : FloatKind.f64.format.order (floatOfInt .f64 ((k : Int) + 1)) z = some o := he
          clear he
          rcases ho with rfl | rfl
          all_goals
            go_wp2_with fail
            go_roundg (q - (k + 1))
            case measure => omega
            case rel => exact ⟨k + 1, rfl, hlt, by go_num, rfl⟩
        · have he := hs.2 (by omega)
          have he' : FloatKind.f64.format.order (floatOfInt .f64 ((k : Int) + 1)) z = some .gt := he
          clear hs he
          go_wp2_with fail
          go_ret
          exact ⟨ret_int (by omega), rfl⟩
    · rw [hn] at HA
      have ex := hs.out.1 hn
      rw [ex] at hng
      clear hs hn ex
      go_enter Try.func37, Try.ntmps37
      go_wp2_with fail
      refine Calls.mono (HN.out _) ?_
      rintro e w1 ⟨rfl, rfl⟩
      go_wp2_with fail
      refine Calls.mono (HA.out _) ?_
      rintro e w1 ⟨rfl, rfl⟩
      go_wp2_with fail
      refine Calls.mono (HZ.out _) ?_
      rintro e w1 ⟨rfl, rfl⟩
      go_wp2_with fail
      go_loopg [7] q (fun g v wr => ∃ (k : Nat), g = q - k ∧ k ≤ q ∧ v = .int .i64 (k : Int) ∧ wr = w)
      case atStart => exact ⟨0, rfl, Nat.zero_le _, rfl, rfl⟩
      case round =>
        obtain ⟨k, rfl, hk, rfl, rfl⟩ := hrel
        have hs := HC.out (k + 1) (by omega)
        rw [Int.natCast_add] at hs
        by_cases hlt : k + 1 ≤ q
        · obtain ⟨o, ho, he⟩ := hs.1 hlt
          clear hs
          have he' : FloatKind.f64.format.order (floatOfInt .f64 ((k : Int) + 1)) z = some o := he
          clear he
          rcases ho with rfl | rfl
          all_goals
            go_wp2_with fail
            go_roundg (q - (k + 1))
            case measure => omega
            case rel => exact ⟨k + 1, rfl, hlt, by go_num, rfl⟩
        · have he := hs.2 (by omega)
          have he' : FloatKind.f64.format.order (floatOfInt .f64 ((k : Int) + 1)) z = some .gt := he
          clear hs he
          go_wp2_with fail
          go_ret
          exact ⟨ret_int (by omega), rfl⟩
set_option maxRecDepth 100000 in
set_option maxHeartbeats 2000000 in
theorem refBad_any (x : Nat) (hx : x < 18446744073709551616) (w : World) : Calls Try.prog 37 #[.float .f64 x] w fun e w' => e = .returned (.int .i64 (Fl.bd x)) ∧ w = w' := by
  unfold Fl.bd
  cases c : Fl.nn x
  · rw [if_neg (by decide)]
    exact refBad_num x hx c w
  · have HN : Hid (∀ w, Calls Try.prog 50 #[.float .f64 x] w fun e w' => e = .returned (.bool true) ∧ w = w') := by
      have := none_any x hx
      rw [c] at this
      exact this
    clear c hx
    rw [if_pos (by decide)]
    go_enter Try.func37, Try.ntmps37
    go_wp2_with fail
    refine Calls.mono (HN.out _) ?_
    rintro e w1 ⟨rfl, rfl⟩
    go_wp2_with fail
    go_ret
    exact ⟨rfl, rfl⟩
end Go.Proofs.Ytdepjmneoplicaa

