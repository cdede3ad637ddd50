/-
  stanzalaw12.RatioRounds: its walk.
-/
import Derived.Test.YtihdfoigobijjaaRf
namespace Go.Proofs.Ytihdfoigobijjaa
open Go.RowKit Go.Maps
set_option linter.unusedVariables false
set_option linter.unusedSimpArgs false
namespace Fl
theorem V_lt {x y : Nat} : V x < V y ↔ key x < key y := by
  have z : mag 0 = 0 := mag_zero
  have h1 := @mag_lt_iff (rung x) (rung y)
  have h2 := @mag_lt_iff (rung y) (rung x)
  have h3 := @mag_lt_iff 0 (rung x)
  have h4 := @mag_lt_iff 0 (rung y)
  rw [z] at h3 h4
  rw [key_sg, key_sg]
  unfold V
  generalize mag (rung x) = p at *
  generalize mag (rung y) = q at *
  generalize rung x = r at *
  generalize rung y = s at *
  unfold sg
  cases neg x <;> cases neg y <;> simp <;> omega
theorem V_max : V 4746794007244308480 = 2147483647 * ((2 ^ lp : Nat) : Int) := by
  have e : lp = 1074 := rfl
  rw [e]
  decide +kernel
theorem V_min : V 13970166044103278592 = -2147483648 * ((2 ^ lp : Nat) : Int) := by
  have e : lp = 1074 := rfl
  rw [e]
  decide +kernel
theorem mul_lt_pos {a b u : Int} (h : 0 < u) : a * u < b * u ↔ a < b := ⟨fun g => Int.lt_of_mul_lt_mul_right g (Int.le_of_lt h), fun g => Int.mul_lt_mul_of_pos_right g h⟩
/-- a whole number, rounded: itself. -/
theorem rn_int {n : Int} (h0 : -2147483648 ≤ n) (h1 : n ≤ 2147483647) : rn (floatOfInt .f64 n) = n := by
  have ef : floatOfInt .f64 n = ofI n := rfl
  obtain ⟨a1, a2, a3, a4, a5⟩ := @ofI_eq n (by omega)
  have hp : (0 : Int) < ((2 ^ lp : Nat) : Int) := by exact_mod_cast Nat.two_pow_pos lp
  rw [ef]
  have hnn : nn (ofI n) = false := decide_eq_false (Nat.not_lt.2 (Nat.le_of_lt a1))
  unfold rn
  rw [hnn, if_neg (by decide)]
  have k1 := @V_lt (ofI n) 4746794007244308480
  have k2 := @V_lt 13970166044103278592 (ofI n)
  rw [a3, V_max, mul_lt_pos hp] at k1
  rw [a3, V_min, mul_lt_pos hp] at k2
  by_cases c1 : key 4746794007244308480 ≤ key (ofI n)
  · rw [if_pos c1]; omega
  · rw [if_neg c1]
    by_cases c2 : key (ofI n) ≤ key 13970166044103278592
    · rw [if_pos c2]; omega
    · rw [if_neg c2]
      unfold wh
      rw [even_fin a2 a1]
      have em : mag (rung (ofI n)) = n.natAbs * 2 ^ lp := by rw [a4]; exact (rd_int (by omega)).1
      rw [em, rhe_exact, int_back (by omega), a5]
      unfold sg
      by_cases g : n < 0
      · simp [g]; omega
      · simp [g]; omega
theorem add_some {x y : Nat} (hx : x < 18446744073709551616) (hy : y < 18446744073709551616) (fx : rung x < inf) (fy : rung y < inf) : ∃ r, floatBits .add .f64 x y = some r := by
  obtain ⟨m, i, e1, -⟩ := read_fin hx fx
  obtain ⟨n, j, f1, -⟩ := read_fin hy fy
  have e : floatBits .add .f64 x y = ((Ieee.double.read x).sum (Ieee.double.read y)).map Ieee.double.write := rfl
  rw [e, e1, f1]
  exact ⟨_, rfl⟩
theorem sub_some {x y : Nat} (hx : x < 18446744073709551616) (hy : y < 18446744073709551616) (fx : rung x < inf) (fy : rung y < inf) : ∃ r, floatBits .sub .f64 x y = some r := by
  obtain ⟨b, e, -⟩ := sub_fin hx hy fx fy
  exact ⟨_, e⟩
end Fl
namespace ratioRounds
set_option maxRecDepth 100000 in
set_option maxHeartbeats 4000000 in
theorem walk (r : Nat) (n : Int) (hr : r < 18446744073709551616) (hn : -2147483648 ≤ n ∧ n ≤ 2147483647) (w : World) : Calls Try.prog 7 #[.float .f64 r, .int .i32 n] w fun e w' => e = .returned (.bool true) ∧ Only (fun _ => False) w w' := by
  obtain ⟨i22, g22, g220, g221, g222⟩ := info_parts info22
  have HA : Hid (∀ w, Calls Try.prog 10 #[] w fun e w' => e = .returned (.bool true) ∧ Fl.Dr w w') := awake_any
  have HE : Hid (∀ w, Calls Try.prog 12 #[] w (edP w)) := edges_any
  obtain ⟨n1, n2⟩ := hn
  have HZ : Hid (∀ w, Calls Try.prog 24 #[.float .f64 (floatOfInt .f64 n)] w fun e w' => e = .returned (.int .i64 n) ∧ w = w') := by
    have := round_any (floatOfInt .f64 n) (Fl.ofI_lt n)
    rw [Fl.rn_int n1 n2] at this
    exact this
  have hfin := (@Fl.ofI_eq n (by omega)).1
  obtain ⟨s1, a1⟩ := Fl.add_some (Fl.ofI_lt n) (y := 4602678819172646912) (by decide) hfin (by decide)
  obtain ⟨s2, a2⟩ := Fl.sub_some (Fl.ofI_lt n) (y := 4598175219545276416) (by decide) hfin (by decide)
  have q1 : ∀ W, (binOp .add 22 (.float .f64 (floatOfInt .f64 n)) (.float .f64 4602678819172646912)).run Try.prog W = .ok (.float .f64 s1) W := fun W => run_float_arith W .add 22 .f64 _ _ s1 a1
  have q2 : ∀ W, (binOp .sub 22 (.float .f64 (floatOfInt .f64 n)) (.float .f64 4598175219545276416)).run Try.prog W = .ok (.float .f64 s2) W := fun W => run_float_arith W .sub 22 .f64 _ _ s2 a2
  have l1 := floatBits_wf a1
  have l2 := floatBits_wf a2
  simp only [Lit.wf, decide_eq_true_eq] at l1 l2
  have l0 := Fl.ofI_lt n
  clear hfin a1 a2
  obtain ⟨s0, hs0⟩ : ∃ s, s = floatOfInt .f64 n := ⟨_, rfl⟩
  have q0 : ∀ W, (convert 21 22 (.int .i32 n)).run Try.prog W = .ok (.float .f64 s0) W := fun W => by rw [hs0]; exact run_convert_int_float W 21 22 .i32 .f64 n (by kernel_rfl) (by kernel_rfl)
  rw [← hs0] at HZ q1 q2 l0
  clear hs0
  have HWD : Hid (∀ x, x = r ∨ x = s0 ∨ x = s1 ∨ x = s2 → x < 18446744073709551616) := by
    rintro x (rfl | rfl | rfl | rfl)
    · exact hr
    · exact l0
    · exact l1
    · exact l2
  clear hr l0 l1 l2
  go_enter Try.func7, Try.ntmps7
  go_wp2_with fail
  refine Calls.mono (HA.out _) ?_
  rintro e w1 ⟨rfl, d1⟩
  have O1 : Hid (Only (fun _ => False) w w1) := d1.only
  clear d1
  go_wp2_with fail
  refine Calls.mono (HE.out _) ?_
  rintro e x1 ⟨g1, rfl, hw, ho⟩
  have E1 : Hid (x1.ownsRow w1.heap.size 22 1 (.slice (some ⟨g1, 0, none⟩) 23 23) 23 (fls eL) ∧ Only (fun _ => False) w1 x1) := ⟨hw, ho⟩
  have sz1 : w1.heap.size ≤ x1.heap.size := ho.size
  clear hw ho
  have HS1 : (x1.alloc (.cells #[.float .f64 r, .float .f64 s0, .float .f64 s1, .float .f64 s2] 22)).heap.size = x1.heap.size + 1 := by simp
  go_wp2_with (at_builtin; (refine wpList_append_lies _ rfl _ _ 25 rfl w1.heap.size 22 i22 (.float .f64 0) 1 8 Try.underlying25 g22 g220 g221 g222 rfl (by decide) (.slice (some ⟨g1, 0, none⟩) 23 23) 23 (fls eL) rfl (E1.out.1.alloc _) ⟨x1.heap.size, 0, none⟩ 4 4 (fls [r, s0, s1, s2]) rfl rfl (news_fl x1 [r, s0, s1, s2]) (fls_one _) (by decide) (by decide) (by decide) (by rw [HS1]; omega) (x1.heap.size + 1) HS1 ?_; intro y1 cap1 z1 hown5 hgrow5 hat5 hlt5; have H1 : Hid (Vw z1 (some ⟨y1, 0, none⟩) (fls (eL ++ [r, s0, s1, s2])) ∧ Only (fun _ => False) w1 z1) := app_post E1.out.2 E1.out.1 hown5 hgrow5; clear hown5 hgrow5 hat5 hlt5))
  have HW1 : Hid (Wds (eL ++ [r, s0, s1, s2])) := by
    intro x hx
    rcases List.mem_append.1 hx with h | h
    · exact eL_wds x h
    · exact HWD.out x (by simp at h ⊢; omega)
  have HL1 : Hid ((eL ++ [r, s0, s1, s2]).length = 27) := rfl
  obtain ⟨Q1, hQ⟩ : ∃ Q, Q = eL ++ [r, s0, s1, s2] := ⟨_, rfl⟩
  rw [← hQ] at H1 HW1 HL1
  clear hQ HS1 sz1
  go_loopg [22] 27 (fun gh v wr => ∃ (k : Nat), gh = 27 - k ∧ k ≤ 27 ∧ v = .int .i64 (k : Int) ∧ wr = z1)
  case atStart => exact ⟨0, rfl, Nat.zero_le _, rfl, rfl⟩
  case round =>
    obtain ⟨k, rfl, hk, rfl, rfl⟩ := hrel
    by_cases hlt1 : k < 27
    · have t1 : (k : Int) < 27 := by omega
      obtain ⟨x, hx⟩ := get_some HL1.out.symm hlt1
      obtain ⟨bq, off, e5, c1⟩ := (H1.out.1.keep (Only.refl _ _)).fl hx
      have e6 : y1 = bq ∧ 0 = off := by injection e5 with h; injection h with h1 h2; exact ⟨h1, h2⟩
      obtain ⟨e7, e8⟩ := e6
      subst e7 e8
      rw [Nat.zero_add] at c1
      have Xx : Hid (x < 18446744073709551616) := HW1.out.get hx
      clear e5 hx
      have B1 : Hid (∀ w, Calls Try.prog 24 #[.float .f64 x] w fun e w' => e = .returned (.int .i64 (Fl.rn x)) ∧ w = w') := round_any x Xx.out
      have B2 : Hid (∀ w, Calls Try.prog 25 #[.float .f64 x] w fun e w' => e = .returned (.int .i64 (Fl.rn x)) ∧ w = w') := refRound_any x Xx.out
      generalize Fl.rn x = m at *
      go_wp2_with fail
      refine Calls.mono (B1.out _) ?_
      rintro e v ⟨rfl, rfl⟩
      go_wp2_with fail
      refine Calls.mono (B2.out _) ?_
      rintro e v ⟨rfl, rfl⟩
      go_wp2_with fail
      go_roundg (27 - (k + 1))
      case measure => omega
      case rel => exact ⟨k + 1, rfl, hlt1, by go_num, rfl⟩
    · have t2 : decide ((k : Int) < 27) = false := decide_eq_false (by omega)
      go_wp2_with fail
      refine Calls.mono (HZ.out _) ?_
      rintro e v ⟨rfl, rfl⟩
      go_wp2_with fail
      go_ret
      exact ⟨rfl, O1.out.trans H1.out.2⟩
end ratioRounds
end Go.Proofs.Ytihdfoigobijjaa
