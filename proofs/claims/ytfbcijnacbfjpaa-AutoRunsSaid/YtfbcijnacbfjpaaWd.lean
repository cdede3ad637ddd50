/-
  Sets of places as four words of 64 bits; no program in it.
-/
import Derived.Test.YtfbcijnacbfjpaaAu
import Derived.Laws.BitsAllLaws
namespace Go.Proofs.Ytfbcijnacbfjpaa
set_option linter.unusedVariables false
set_option linter.unusedSimpArgs false
/-- the j-th word of a set. -/
def wd (S j : Nat) : Nat := S / 2 ^ (64 * j) % 18446744073709551616
theorem wd_lt (S j : Nat) : wd S j < 18446744073709551616 := Nat.mod_lt _ (by decide)
theorem wd_bit (S j i : Nat) : (wd S j).testBit i = (decide (i < 64) && S.testBit (64 * j + i)) := by
  unfold wd
  rw [show (18446744073709551616 : Nat) = 2 ^ 64 from rfl, Nat.testBit_mod_two_pow, Nat.testBit_div_two_pow, Nat.add_comm i]
theorem wd_or (A B j : Nat) : wd (A ||| B) j = wd A j ||| wd B j := by
  apply Nat.eq_of_testBit_eq
  intro i
  rw [Nat.testBit_or, wd_bit, wd_bit, wd_bit, Nat.testBit_or]
  cases decide (i < 64) <;> simp
theorem wd_and (A B j : Nat) : wd (A &&& B) j = wd A j &&& wd B j := by
  apply Nat.eq_of_testBit_eq
  intro i
  rw [Nat.testBit_and, wd_bit, wd_bit, wd_bit, Nat.testBit_and]
  cases decide (i < 64) <;> simp
theorem wd_pow (q r j : Nat) (hr : r < 64) : wd (2 ^ (64 * q + r)) j = if q = j then 2 ^ r else 0 := by
  apply Nat.eq_of_testBit_eq
  intro i
  rw [wd_bit, Nat.testBit_two_pow]
  by_cases h : q = j
  · subst h
    rw [if_pos rfl, Nat.testBit_two_pow]
    by_cases e : r = i
    · subst e; simp [hr]
    · have : ¬ (64 * q + r = 64 * q + i) := by omega
      simp [e, this]
  · rw [if_neg h]
    by_cases e : i < 64
    · have : ¬ (64 * q + r = 64 * j + i) := by omega
      simp [this]
    · simp [e]
theorem wd_zero (j : Nat) : wd 0 j = 0 := by simp [wd]
theorem wd_ext {A B : Nat} (ha : A < 2 ^ 256) (hb : B < 2 ^ 256) (h : ∀ j, j < 4 → wd A j = wd B j) : A = B := by
  apply Nat.eq_of_testBit_eq
  intro i
  by_cases hi : i < 256
  · have := congrArg (fun x => Nat.testBit x (i % 64)) (h (i / 64) (by omega))
    simp only [wd_bit] at this
    rw [decide_eq_true (by omega), Bool.true_and, Bool.true_and, show 64 * (i / 64) + i % 64 = i by omega] at this
    exact this
  · rw [Nat.testBit_lt_two_pow (Nat.lt_of_lt_of_le ha (Nat.pow_le_pow_right (by decide) (by omega))), Nat.testBit_lt_two_pow (Nat.lt_of_lt_of_le hb (Nat.pow_le_pow_right (by decide) (by omega)))]
theorem or_wd (A B j : Nat) : bits .or .u64 (wd A j : Int) (wd B j : Int) = (wd (A ||| B) j : Int) := by
  rw [u64_or_nat _ _ (wd_lt _ _) (wd_lt _ _), wd_or]
theorem and_wd (A B j : Nat) : bits .and .u64 (wd A j : Int) (wd B j : Int) = (wd (A &&& B) j : Int) := by
  rw [u64_and_nat _ _ (wd_lt _ _) (wd_lt _ _), wd_and]
/-- is a place in the set, by its word. -/
theorem bit_wd (S q r : Nat) (hr : r < 64) : wd S q / 2 ^ r % 2 = if S.testBit (64 * q + r) = true then 1 else 0 := by
  have h := wd_bit S q r
  rw [decide_eq_true hr, Bool.true_and] at h
  rw [← h, Nat.testBit_eq_decide_div_mod_eq]
  have : wd S q / 2 ^ r % 2 < 2 := Nat.mod_lt _ (by decide)
  by_cases e : wd S q / 2 ^ r % 2 = 1
  · simp [e]
  · simp [e]; omega
end Go.Proofs.Ytfbcijnacbfjpaa
