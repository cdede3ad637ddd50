/-
  All rows of ends, one by one, as masks name them; no program in it. (For layer 15.)
-/
import Derived.Test.YthckdomljfdmpaaDs
namespace Go.Proofs.Ythckdomljfdmpaa
set_option linter.unusedVariables false
set_option linter.unusedSimpArgs false
namespace Ds
/-- the boundaries up to k that a mask names. -/
def up (q : Nat) : Nat → List Nat
  | 0 => []
  | k + 1 => if q / 2 ^ k % 2 = 1 then up q k ++ [k + 1] else up q k
theorem up_yes {q k : Nat} (h : q / 2 ^ k % 2 = 1) : up q (k + 1) = up q k ++ [k + 1] := by
  show (if q / 2 ^ k % 2 = 1 then up q k ++ [k + 1] else up q k) = _
  rw [if_pos h]
theorem up_no {q k : Nat} (h : ¬ q / 2 ^ k % 2 = 1) : up q (k + 1) = up q k := by
  show (if q / 2 ^ k % 2 = 1 then up q k ++ [k + 1] else up q k) = _
  rw [if_neg h]
theorem up_len (q : Nat) : ∀ k, (up q k).length ≤ k
  | 0 => Nat.le_refl _
  | k + 1 => by
    have := up_len q k
    by_cases h : q / 2 ^ k % 2 = 1
    · rw [up_yes h, List.length_append]
      simp
      omega
    · rw [up_no h]; omega
theorem up_row (q : Nat) : ∀ (k m : Nat), k < m → Row m 0 (up q k ++ [m])
  | 0, m, h => ⟨h, rfl⟩
  | k + 1, m, h => by
    by_cases g : q / 2 ^ k % 2 = 1
    · rw [up_yes g]
      exact Row.snoc h (up_row q k (k + 1) (Nat.lt_succ_self _))
    · rw [up_no g]
      exact up_row q k m (by omega)
theorem up_low (q k : Nat) : ∀ j, j ≤ k → up (q + 2 ^ k) j = up q j
  | 0, _ => rfl
  | j + 1, h => by
    have ih := up_low q k j (by omega)
    have e : (q + 2 ^ k) / 2 ^ j % 2 = q / 2 ^ j % 2 := by
      obtain ⟨c, hc⟩ : ∃ c, k = j + 1 + c := ⟨k - (j + 1), by omega⟩
      have e1 : 2 ^ k = 2 ^ j * (2 * 2 ^ c) := by rw [hc, Nat.pow_add, Nat.pow_add, Nat.pow_one, Nat.mul_assoc]
      rw [e1, Nat.add_mul_div_left _ _ (Nat.two_pow_pos j)]
      omega
    by_cases g : q / 2 ^ j % 2 = 1
    · rw [up_yes g, up_yes (by rw [e]; exact g), ih]
    · rw [up_no g, up_no (by rw [e]; exact g), ih]
theorem up_all : ∀ (k i : Nat) (F : List Nat), Row i 0 F → i ≤ k → ∃ q, q < 2 ^ k ∧ up q k = F
  | 0, i, F, h, hi => by
    have e : i = 0 := by omega
    subst e
    cases F with
    | nil => exact ⟨0, by decide, rfl⟩
    | cons x F => exact absurd h.2.le (by have := h.1; omega)
  | k + 1, i, F, h, hi => by
    have hp : 2 ^ (k + 1) = 2 ^ k + 2 ^ k := by rw [Nat.pow_succ]; omega
    by_cases e : i ≤ k
    · obtain ⟨q, h1, h2⟩ := up_all k i F h e
      refine ⟨q, by omega, ?_⟩
      rw [up_no (by rw [Nat.div_eq_of_lt h1]; decide)]
      exact h2
    · have e2 : i = k + 1 := by omega
      subst e2
      obtain ⟨i', F', rfl, h1, h2⟩ := Row.last h (by omega)
      obtain ⟨q, h3, h4⟩ := up_all k i' F' h1 (by omega)
      refine ⟨q + 2 ^ k, by omega, ?_⟩
      rw [up_yes, up_low q k k (Nat.le_refl _), h4]
      rw [Nat.add_div_right _ (Nat.two_pow_pos k), Nat.div_eq_of_lt h3]
/-- the row of ends of a mask. -/
def ens (n q : Nat) : List Nat := up q (n - 1) ++ [n]
theorem ens_row {n : Nat} (h : 0 < n) (q : Nat) : Row n 0 (ens n q) := up_row q (n - 1) n (by omega)
theorem ens_all {n : Nat} (h : 0 < n) {E : List Nat} (hE : Row n 0 E) : ∃ q, q < 2 ^ (n - 1) ∧ ens n q = E := by
  obtain ⟨i, F, rfl, h1, h2⟩ := Row.last hE h
  obtain ⟨q, h3, h4⟩ := up_all (n - 1) i F h1 (by omega)
  exact ⟨q, h3, by unfold ens; rw [h4]⟩
/-- the best of the first m masks' rows. -/
def Mi (f : Nat → Nat → Option Nat) (n m : Nat) (is : Bool) (s : Nat) (F : List Nat) : Prop :=
  (is = false ∧ F = [] ∧ s = 0 ∧ ∀ q, q < m → cst f 0 (ens n q) = none) ∨
  (is = true ∧ ∃ q0, q0 < m ∧ F = ens n q0 ∧ cst f 0 F = some s ∧ ∀ q s', q < m → cst f 0 (ens n q) = some s' → s ≤ s' ∧ (s' = s → bef (ens n q) F = false))
theorem Mi.start (f : Nat → Nat → Option Nat) (n : Nat) : Mi f n 0 false 0 [] := Or.inl ⟨rfl, rfl, rfl, fun q h => by omega⟩
theorem Mi.skip {f : Nat → Nat → Option Nat} {n m s : Nat} {is : Bool} {F : List Nat} (h : Mi f n m is s F) (hn : cst f 0 (ens n m) = none) : Mi f n (m + 1) is s F := by
  rcases h with ⟨h1, h2, h0, h3⟩ | ⟨h1, q0, h2, h3, h4, h5⟩
  · refine Or.inl ⟨h1, h2, h0, fun q hq => ?_⟩
    by_cases e : q = m
    · subst e; exact hn
    · exact h3 q (by omega)
  · refine Or.inr ⟨h1, q0, by omega, h3, h4, fun q s' hq hc => ?_⟩
    by_cases e : q = m
    · subst e; rw [hn] at hc; cases hc
    · exact h5 q s' (by omega) hc
theorem Mi.put {f : Nat → Nat → Option Nat} {n m s z : Nat} {is : Bool} {F : List Nat} (h : Mi f n m is s F) (hc : cst f 0 (ens n m) = some z) (hb : is = false ∨ z < s ∨ (z = s ∧ bef (ens n m) F = true)) : Mi f n (m + 1) true z (ens n m) := by
  refine Or.inr ⟨rfl, m, Nat.lt_succ_self _, rfl, hc, fun q s' hq hq2 => ?_⟩
  by_cases e : q = m
  · subst e
    rw [hc] at hq2
    injection hq2 with e
    subst e
    exact ⟨Nat.le_refl _, fun _ => bef_irr _⟩
  · rcases h with ⟨h1, h2, h0, h3⟩ | ⟨h1, q0, h2, h3, h4, h5⟩
    · rw [h3 q (by omega)] at hq2; cases hq2
    · have h6 := h5 q s' (by omega) hq2
      rcases hb with hb | hb | ⟨hb, hb2⟩
      · rw [hb] at h1; cases h1
      · exact ⟨by omega, fun e => by omega⟩
      · refine ⟨by omega, fun e => ?_⟩
        have h7 := h6.2 (by omega)
        cases g : bef (ens n q) (ens n m) with
        | false => rfl
        | true => rw [bef_trans _ _ _ g hb2] at h7; cases h7
theorem Mi.keep {f : Nat → Nat → Option Nat} {n m s z : Nat} {F : List Nat} (h : Mi f n m true s F) (hc : cst f 0 (ens n m) = some z) (hb : s < z ∨ (z = s ∧ bef (ens n m) F = false)) : Mi f n (m + 1) true s F := by
  rcases h with ⟨h1, h2, h0, h3⟩ | ⟨h1, q0, h2, h3, h4, h5⟩
  · cases h1
  · refine Or.inr ⟨h1, q0, by omega, h3, h4, fun q s' hq hq2 => ?_⟩
    by_cases e : q = m
    · subst e
      rw [hc] at hq2
      injection hq2 with e
      subst e
      rcases hb with hb | ⟨hb, hb2⟩
      · exact ⟨by omega, fun e => by omega⟩
      · exact ⟨by omega, fun _ => hb2⟩
    · exact h5 q s' (by omega) hq2
theorem Mi.len {f : Nat → Nat → Option Nat} {n m s : Nat} {is : Bool} {F : List Nat} (h : Mi f n m is s F) (hn : 0 < n) : F.length ≤ n := by
  rcases h with ⟨h1, h2, h0, h3⟩ | ⟨h1, q0, h2, h3, h4, h5⟩
  · rw [h2]; exact Nat.zero_le _
  · rw [h3]; unfold ens; rw [List.length_append]; have := up_len q0 (n - 1); simp; omega
theorem Mi.best {f : Nat → Nat → Option Nat} {n s : Nat} {F : List Nat} (hn : 0 < n) (h : Mi f n (2 ^ (n - 1)) true s F) : Best f n 0 F s := by
  rcases h with ⟨h1, h2, h0, h3⟩ | ⟨h1, q0, h2, h3, h4, h5⟩
  · cases h1
  · refine ⟨by rw [h3]; exact ens_row hn q0, h4, fun E' s' hr hc => ?_⟩
    obtain ⟨q, hq, rfl⟩ := ens_all hn hr
    exact h5 q s' hq hc
theorem Mi.no {f : Nat → Nat → Option Nat} {n s : Nat} {F : List Nat} (hn : 0 < n) (h : Mi f n (2 ^ (n - 1)) false s F) : No f n 0 ∧ F = [] := by
  rcases h with ⟨h1, h2, h0, h3⟩ | ⟨h1, q0, h2, h3, h4, h5⟩
  · refine ⟨fun E hr => ?_, h2⟩
    obtain ⟨q, hq, rfl⟩ := ens_all hn hr
    exact h3 q hq
  · cases h1
/-- of a row the last end alone is its end. -/
theorem Row.lastIff {b : Nat} : ∀ {a : Nat} {E : List Nat} {i x : Nat}, Row b a E → E[i]? = some x → (i + 1 = E.length ↔ x = b)
  | a, [], i, x, h, hx => by simp at hx
  | a, y :: E, 0, x, h, hx => by
    simp at hx
    subst hx
    cases E with
    | nil => exact ⟨fun _ => h.2, fun _ => rfl⟩
    | cons z F =>
      refine ⟨fun e => by simp at e, fun e => ?_⟩
      have h2 := h.2
      have := h2.1
      have := h2.2.le
      omega
  | a, y :: E, i + 1, x, h, hx => by
    have := Row.lastIff h.2 (show E[i]? = some x by simpa using hx)
    rw [List.length_cons]
    constructor
    · intro e; exact this.1 (by omega)
    · intro e; have := this.2 e; omega
theorem cst_step {f : Nat → Nat → Option Nat} {a x : Nat} {F : List Nat} : cst f a (x :: F) = match f a x, cst f x F with
    | some u, some v => some (u + v)
    | _, _ => none := rfl
end Ds
end Go.Proofs.Ythckdomljfdmpaa
