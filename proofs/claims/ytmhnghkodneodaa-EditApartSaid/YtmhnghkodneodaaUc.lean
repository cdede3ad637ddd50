/-
  edit.Check and the document's Edit.
-/
import Derived.Test.YtmhnghkodneodaaUb
namespace Go.Proofs.Ytmhnghkodneodaa
open Go.RowKit Go.Maps
set_option linter.unusedVariables false
set_option linter.unusedSimpArgs false
namespace Ed
/-- may a text of n bytes be changed so? -/
def code (n : Nat) (A D : Int) (m : Nat) : Nat := if A < 0 ∨ D < 0 ∨ (n : Int) < A + D then 50 else if 4096 < (n : Int) - D + m then 3 else 0
theorem code_edit {n m : Nat} {A D : Int} (h : A < 0 ∨ D < 0 ∨ (n : Int) < A + D) : code n A D m = 50 := by unfold code; rw [if_pos h]
theorem code_text {n m : Nat} {A D : Int} (h : ¬ (A < 0 ∨ D < 0 ∨ (n : Int) < A + D)) (h2 : 4096 < (n : Int) - D + m) : code n A D m = 3 := by unfold code; rw [if_neg h, if_pos h2]
theorem code_ok {n m : Nat} {A D : Int} (h : ¬ (A < 0 ∨ D < 0 ∨ (n : Int) < A + D)) (h2 : ¬ 4096 < (n : Int) - D + m) : code n A D m = 0 := by unfold code; rw [if_neg h, if_neg h2]
theorem code_nat {n a d m : Nat} (h : a + d ≤ n) (h2 : n - d + m ≤ 4096) : code n (a : Int) (d : Int) m = 0 := code_ok (by omega) (by omega)
theorem code_long {n a d m : Nat} (h : a + d ≤ n) (h2 : 4096 < n - d + m) : code n (a : Int) (d : Int) m = 3 := code_text (by omega) (by omega)
/-- a change that may be. -/
theorem code_zero {n m : Nat} {A D : Int} (h : code n A D m = 0) : ∃ a d : Nat, A = (a : Int) ∧ D = (d : Int) ∧ a + d ≤ n ∧ n - d + m ≤ 4096 := by
  unfold code at h
  split at h
  · cases h
  · split at h
    · cases h
    · rename_i h1 h2
      exact ⟨A.toNat, D.toNat, by omega, by omega, by omega, by omega⟩
theorem code_or (n : Nat) (A D : Int) (m : Nat) : code n A D m = 0 ∨ code n A D m = 3 ∨ code n A D m = 50 := by
  unfold code
  split
  · exact Or.inr (Or.inr rfl)
  · split
    · exact Or.inr (Or.inl rfl)
    · exact Or.inl rfl
end Ed
theorem ed_one (a b : Int) (x : Option Addr) (m c : Nat) : (#[Value.int .i64 a, .int .i64 b, .slice x m c].all fun x => x.oneCell') = true := by simp [Value.oneCell']
set_option maxRecDepth 100000 in
set_option maxHeartbeats 4000000 in
theorem check_any (n m c : Nat) (A D : Int) (aI : Option Addr) (w : World) (hA : -9223372036854775808 ≤ A ∧ A ≤ 9223372036854775807) (hD : -9223372036854775808 ≤ D ∧ D ≤ 9223372036854775807) (hn : n ≤ 2147483647) (hm : m ≤ 2147483647) :
    Calls Try.prog 10 #[.int .i64 (n : Int), .agg #[.int .i64 A, .int .i64 D, .slice aI m c]] w fun e w' => e = .returned (.int .i64 (Ed.code n A D m : Nat)) ∧ Only (fun _ => False) w w' := by
  obtain ⟨z, hz⟩ : ∃ z : Int, z = 4096 - (m : Int) := ⟨_, rfl⟩
  have m3 : IntKind.i64.wrap (4096 - (m : Int)) = z := by rw [IntKind.wrap_i64]; omega
  by_cases c0 : A < 0
  · have E : Hid (Ed.code n A D m = 50) := Ed.code_edit (by omega)
    go_enter Try.func10, Try.ntmps10
    go_upto_region 1 with fail
    obtain ⟨R, w0, hw0, hR, H0, r0, r1, r2, lR⟩ := box3 w _ _ _ _
    rw [hw0, hR]
    clear hw0 hR
    go_wp2_with fail
    go_ret
    exact ⟨by rw [E.out]; rfl, H0.out.2.1⟩
  · have d0 : decide (A < 0) = false := decide_eq_false c0
    by_cases c1 : D < 0
    · have E : Hid (Ed.code n A D m = 50) := Ed.code_edit (by omega)
      go_enter Try.func10, Try.ntmps10
      go_upto_region 1 with fail
      obtain ⟨R, w0, hw0, hR, H0, r0, r1, r2, lR⟩ := box3 w _ _ _ _
      rw [hw0, hR]
      clear hw0 hR
      go_wp2_with fail
      go_ret
      exact ⟨by rw [E.out]; rfl, H0.out.2.1⟩
    · have d1 : decide (D < 0) = false := decide_eq_false c1
      by_cases c2 : (n : Int) < A
      · have E : Hid (Ed.code n A D m = 50) := Ed.code_edit (by omega)
        go_enter Try.func10, Try.ntmps10
        go_upto_region 1 with fail
        obtain ⟨R, w0, hw0, hR, H0, r0, r1, r2, lR⟩ := box3 w _ _ _ _
        rw [hw0, hR]
        clear hw0 hR
        go_wp2_with fail
        go_ret
        exact ⟨by rw [E.out]; rfl, H0.out.2.1⟩
      · have d2 : decide ((n : Int) < A) = false := decide_eq_false c2
        obtain ⟨a, rfl⟩ : ∃ a : Nat, A = (a : Int) := ⟨A.toNat, by omega⟩
        obtain ⟨d, rfl⟩ : ∃ d : Nat, D = (d : Int) := ⟨D.toNat, by omega⟩
        obtain ⟨x, hx⟩ : ∃ x, x = n - a := ⟨_, rfl⟩
        have m1 : IntKind.i64.wrap ((n : Int) - (a : Int)) = (x : Int) := by rw [IntKind.wrap_i64]; omega
        by_cases c4 : (x : Int) < (d : Int)
        · have E : Hid (Ed.code n (a : Int) (d : Int) m = 50) := Ed.code_edit (by omega)
          clear hx hz
          go_enter Try.func10, Try.ntmps10
          go_upto_region 1 with fail
          obtain ⟨R, w0, hw0, hR, H0, r0, r1, r2, lR⟩ := box3 w _ _ _ _
          rw [hw0, hR]
          clear hw0 hR
          go_wp2_with fail
          go_ret
          exact ⟨by rw [E.out]; rfl, H0.out.2.1⟩
        · have d4 : decide ((x : Int) < (d : Int)) = false := decide_eq_false c4
          obtain ⟨y, hy⟩ : ∃ y, y = n - d := ⟨_, rfl⟩
          have m2 : IntKind.i64.wrap ((n : Int) - (d : Int)) = (y : Int) := by rw [IntKind.wrap_i64]; omega
          by_cases c5 : z < (y : Int)
          · have E : Hid (Ed.code n (a : Int) (d : Int) m = 3) := Ed.code_text (by omega) (by omega)
            clear hx hy hz
            go_enter Try.func10, Try.ntmps10
            go_upto_region 1 with fail
            obtain ⟨R, w0, hw0, hR, H0, r0, r1, r2, lR⟩ := box3 w _ _ _ _
            rw [hw0, hR]
            clear hw0 hR
            go_wp2_with fail
            go_ret
            exact ⟨by rw [E.out]; rfl, H0.out.2.1⟩
          · have d5 : decide (z < (y : Int)) = false := decide_eq_false c5
            have E : Hid (Ed.code n (a : Int) (d : Int) m = 0) := Ed.code_ok (by omega) (by omega)
            clear hx hy hz
            go_enter Try.func10, Try.ntmps10
            go_upto_region 1 with fail
            obtain ⟨R, w0, hw0, hR, H0, r0, r1, r2, lR⟩ := box3 w _ _ _ _
            rw [hw0, hR]
            clear hw0 hR
            go_wp2_with fail
            go_ret
            exact ⟨by rw [E.out]; rfl, H0.out.2.1⟩
set_option maxRecDepth 100000 in
set_option maxHeartbeats 4000000 in
theorem refEdit_any (n m c : Nat) (A D : Int) (aI : Option Addr) (w : World) (hA : -9223372036854775808 ≤ A ∧ A ≤ 9223372036854775807) (hD : -9223372036854775808 ≤ D ∧ D ≤ 9223372036854775807) (hn : n ≤ 2147483647) (hm : m ≤ 2147483647) :
    Calls Try.prog 11 #[.int .i64 (n : Int), .agg #[.int .i64 A, .int .i64 D, .slice aI m c]] w fun e w' => e = .returned (.int .i64 (Ed.code n A D m : Nat)) ∧ Only (fun _ => False) w w' := by
  obtain ⟨z, hz⟩ : ∃ z : Int, z = 4096 - (m : Int) := ⟨_, rfl⟩
  have m3 : IntKind.i64.wrap (4096 - (m : Int)) = z := by rw [IntKind.wrap_i64]; omega
  by_cases c0 : A < 0
  · have E : Hid (Ed.code n A D m = 50) := Ed.code_edit (by omega)
    go_enter Try.func11, Try.ntmps11
    go_upto_region 1 with fail
    obtain ⟨R, w0, hw0, hR, H0, r0, r1, r2, lR⟩ := box3 w _ _ _ _
    rw [hw0, hR]
    clear hw0 hR
    go_wp2_with fail
    go_ret
    exact ⟨by rw [E.out]; rfl, H0.out.2.1⟩
  · have d0 : decide (A < 0) = false := decide_eq_false c0
    by_cases c1 : (n : Int) < A
    · have E : Hid (Ed.code n A D m = 50) := Ed.code_edit (by omega)
      go_enter Try.func11, Try.ntmps11
      go_upto_region 1 with fail
      obtain ⟨R, w0, hw0, hR, H0, r0, r1, r2, lR⟩ := box3 w _ _ _ _
      rw [hw0, hR]
      clear hw0 hR
      go_wp2_with fail
      go_ret
      exact ⟨by rw [E.out]; rfl, H0.out.2.1⟩
    · have d1 : decide ((n : Int) < A) = false := decide_eq_false c1
      by_cases c2 : D < 0
      · have E : Hid (Ed.code n A D m = 50) := Ed.code_edit (by omega)
        go_enter Try.func11, Try.ntmps11
        go_upto_region 1 with fail
        obtain ⟨R, w0, hw0, hR, H0, r0, r1, r2, lR⟩ := box3 w _ _ _ _
        rw [hw0, hR]
        clear hw0 hR
        go_wp2_with fail
        go_ret
        exact ⟨by rw [E.out]; rfl, H0.out.2.1⟩
      · have d2 : decide (D < 0) = false := decide_eq_false c2
        obtain ⟨a, rfl⟩ : ∃ a : Nat, A = (a : Int) := ⟨A.toNat, by omega⟩
        obtain ⟨d, rfl⟩ : ∃ d : Nat, D = (d : Int) := ⟨D.toNat, by omega⟩
        obtain ⟨x, hx⟩ : ∃ x, x = n - a := ⟨_, rfl⟩
        have m1 : IntKind.i64.wrap ((n : Int) - (a : Int)) = (x : Int) := by rw [IntKind.wrap_i64]; omega
        by_cases c4 : (x : Int) < (d : Int)
        · have E : Hid (Ed.code n (a : Int) (d : Int) m = 50) := Ed.code_edit (by omega)
          clear hx hz
          go_enter Try.func11, Try.ntmps11
          go_upto_region 1 with fail
          obtain ⟨R, w0, hw0, hR, H0, r0, r1, r2, lR⟩ := box3 w _ _ _ _
          rw [hw0, hR]
          clear hw0 hR
          go_wp2_with fail
          go_ret
          exact ⟨by rw [E.out]; rfl, H0.out.2.1⟩
        · have d4 : decide ((x : Int) < (d : Int)) = false := decide_eq_false c4
          obtain ⟨y, hy⟩ : ∃ y, y = n - d := ⟨_, rfl⟩
          have m2 : IntKind.i64.wrap ((n : Int) - (d : Int)) = (y : Int) := by rw [IntKind.wrap_i64]; omega
          by_cases c6 : (4096 : Int) < (m : Int)
          · have E : Hid (Ed.code n (a : Int) (d : Int) m = 3) := Ed.code_text (by omega) (by omega)
            clear hx hy hz
            go_enter Try.func11, Try.ntmps11
            go_upto_region 1 with fail
            obtain ⟨R, w0, hw0, hR, H0, r0, r1, r2, lR⟩ := box3 w _ _ _ _
            rw [hw0, hR]
            clear hw0 hR
            go_wp2_with fail
            go_ret
            exact ⟨by rw [E.out]; rfl, H0.out.2.1⟩
          · have d6 : decide ((4096 : Int) < (m : Int)) = false := decide_eq_false c6
            by_cases c5 : z < (y : Int)
            · have E : Hid (Ed.code n (a : Int) (d : Int) m = 3) := Ed.code_text (by omega) (by omega)
              clear hx hy hz
              go_enter Try.func11, Try.ntmps11
              go_upto_region 1 with fail
              obtain ⟨R, w0, hw0, hR, H0, r0, r1, r2, lR⟩ := box3 w _ _ _ _
              rw [hw0, hR]
              clear hw0 hR
              go_wp2_with fail
              go_ret
              exact ⟨by rw [E.out]; rfl, H0.out.2.1⟩
            · have d5 : decide (z < (y : Int)) = false := decide_eq_false c5
              have E : Hid (Ed.code n (a : Int) (d : Int) m = 0) := Ed.code_ok (by omega) (by omega)
              clear hx hy hz
              go_enter Try.func11, Try.ntmps11
              go_upto_region 1 with fail
              obtain ⟨R, w0, hw0, hR, H0, r0, r1, r2, lR⟩ := box3 w _ _ _ _
              rw [hw0, hR]
              clear hw0 hR
              go_wp2_with fail
              go_ret
              exact ⟨by rw [E.out]; rfl, H0.out.2.1⟩
end Go.Proofs.Ytmhnghkodneodaa
