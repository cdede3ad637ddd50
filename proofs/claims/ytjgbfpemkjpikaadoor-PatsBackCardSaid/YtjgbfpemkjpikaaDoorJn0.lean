/-
  Signs of a text that is two texts with one byte below 128 between; no program in it.
-/
import Derived.Test.YtjgbfpemkjpikaaDoorPt
namespace Go.Proofs.YtjgbfpemkjpikaaDoor
set_option linter.unusedVariables false
set_option linter.unusedSimpArgs false
namespace Sg
theorem cnt_stop {m n : Nat} {x y : Nat → Nat} (hm : 0 < m) (hmn : m ≤ n) (he : ∀ j, j < m → y j = x j) (hs : m < n → y m < 128) : cnt n y = cnt m x := by
  have e0 := he 0 hm
  have e1 := he 1
  have e2 := he 2
  have e3 := he 3
  have hlo := lo_ge (x 0)
  unfold cnt
  rw [e0]
  by_cases m1 : m = 1
  · subst m1
    rw [if_neg (by omega), if_neg (by omega)]
  · have e1 := e1 (by omega)
    rw [e1]
    by_cases h1 : 1 < sz (x 0) ∧ 1 < m ∧ lo (x 0) ≤ x 1 ∧ x 1 ≤ hi (x 0)
    · rw [if_pos h1, if_pos (by omega)]
      by_cases m2 : m = 2
      · subst m2
        rw [if_neg (by omega), if_neg (by omega)]
      · have e2 := e2 (by omega)
        rw [e2]
        by_cases h2 : 2 < sz (x 0) ∧ 2 < m ∧ 128 ≤ x 2 ∧ x 2 ≤ 191
        · rw [if_pos h2, if_pos (by omega)]
          by_cases m3 : m = 3
          · subst m3
            rw [if_neg (by omega), if_neg (by omega)]
          · have e3 := e3 (by omega)
            rw [e3]
            by_cases h3 : 3 < sz (x 0) ∧ 3 < m ∧ 128 ≤ x 3 ∧ x 3 ≤ 191
            · rw [if_pos h3, if_pos (by omega)]
            · rw [if_neg h3, if_neg (by omega)]
        · rw [if_neg h2, if_neg (by omega)]
    · rw [if_neg h1, if_neg (by omega)]
theorem num_stop {m n : Nat} {x y : Nat → Nat} (hm : 0 < m) (hmn : m ≤ n) (he : ∀ j, j < m → y j = x j) (hs : m < n → y m < 128) : num n y = num m x := by
  have hc := cnt_stop hm hmn he hs
  have e0 := he 0 hm
  have hle := cnt_le m x hm
  have h4 := cnt_le4 m x
  have h1 := cnt_pos m x
  unfold num whole
  rw [hc, e0]
  split
  · generalize cnt m x = k at *
    have e1 := he 1
    have e2 := he 2
    have e3 := he 3
    unfold val
    obtain rfl | rfl | rfl | rfl : k = 1 ∨ k = 2 ∨ k = 3 ∨ k = 4 := by omega
    · simp [e0]
    · simp [e0, e1 (by omega)]
    · simp [e0, e1 (by omega), e2 (by omega)]
    · simp [e0, e1 (by omega), e2 (by omega), e3 (by omega)]
  · rfl
theorem ascii {n : Nat} {y : Nat → Nat} (h : y 0 < 128) : cnt n y = 1 ∧ num n y = y 0 := by
  have hs : sz (y 0) = 1 := by unfold sz; rw [if_pos h]
  have hc : cnt n y = 1 := by unfold cnt; rw [if_neg (by omega)]
  exact ⟨hc, by rw [num_val hc hs.symm]; simp [val]⟩
theorem rest_shift (n : Nat) (x z : Nat → Nat) (M : Nat) (hz : ∀ j, z (M + j) = x j) : ∀ f k, n - k ≤ f → rest (M + n) z (M + k) = (rest n x k).map fun s => (s.1, s.2.1 + M, s.2.2) := by
  intro f
  induction f with
  | zero => intro k h; rw [rest_end _ _ _ (by omega), rest_end _ _ _ (by omega)]; rfl
  | succ f ih =>
    intro k h
    by_cases hk : k < n
    · have e : (fun j => z (M + k + j)) = fun j => x (k + j) := by funext j; rw [Nat.add_assoc, hz]
      have hp := cnt_pos (n - k) (fun j => x (k + j))
      rw [rest_step n x k hk, rest_step (M + n) z (M + k) (by omega), e, show M + n - (M + k) = n - k by omega, Nat.add_assoc, ih _ (by omega)]
      simp [Nat.add_comm]
    · rw [rest_end _ _ _ (by omega), rest_end _ _ _ (by omega)]; rfl
theorem rest_sep (n1 n2 : Nat) (x y z : Nat → Nat) (hx : ∀ j, j < n1 → y j = x j) (hc : y n1 < 128) (hz : ∀ j, y (n1 + 1 + j) = z j) : ∀ f k, k ≤ n1 → n1 - k ≤ f → rest (n1 + 1 + n2) y k = rest n1 x k ++ (y n1, n1, 1) :: (rest n2 z 0).map (fun s => (s.1, s.2.1 + (n1 + 1), s.2.2)) := by
  have hend : rest (n1 + 1 + n2) y n1 = rest n1 x n1 ++ (y n1, n1, 1) :: (rest n2 z 0).map (fun s => (s.1, s.2.1 + (n1 + 1), s.2.2)) := by
    rw [rest_end n1 x n1 (Nat.le_refl _), rest_step _ _ _ (by omega)]
    obtain ⟨h1, h2⟩ := ascii (n := n1 + 1 + n2 - n1) (y := fun j => y (n1 + j)) hc
    rw [h1, h2]
    have := rest_shift n2 z y (n1 + 1) hz n2 0 (by omega)
    rw [Nat.add_zero] at this
    rw [this]
    rfl
  intro f
  induction f with
  | zero =>
    intro k hk h
    obtain rfl : k = n1 := by omega
    exact hend
  | succ f ih =>
    intro k hk h
    by_cases hlt : k < n1
    · have he : ∀ j, j < n1 - k → (fun j => y (k + j)) j = (fun j => x (k + j)) j := fun j hj => hx _ (by omega)
      have hs : n1 - k < n1 + 1 + n2 - k → (fun j => y (k + j)) (n1 - k) < 128 := fun _ => by
        show y (k + (n1 - k)) < 128
        rw [show k + (n1 - k) = n1 by omega]
        exact hc
      have c1 := cnt_stop (n := n1 + 1 + n2 - k) (by omega : 0 < n1 - k) (by omega) he hs
      have c2 := num_stop (n := n1 + 1 + n2 - k) (by omega : 0 < n1 - k) (by omega) he hs
      have hp := cnt_pos (n1 - k) (fun j => x (k + j))
      have hl := cnt_le (n1 - k) (fun j => x (k + j)) (by omega)
      rw [rest_step n1 x k hlt, rest_step _ y k (by omega), c1, c2, ih _ (by omega) (by omega)]
      rfl
    · obtain rfl : k = n1 := by omega
      exact hend
theorem sz_le2 {c : Nat} (h : 1 < sz c) : 194 ≤ c ∧ c < 245 := by
  unfold sz at h
  (repeat' split at h) <;> omega
/-- a sign's number is one. -/
theorem num_right (n : Nat) (x : Nat → Nat) (hx : ∀ j, x j < 256) : num n x < 55296 ∨ (57343 < num n x ∧ num n x ≤ 1114111) := by
  unfold num
  split
  · rename_i hw
    unfold whole at hw
    have hw : cnt n x = sz (x 0) := by simpa using hw
    rw [hw]
    unfold cnt at hw
    have h0 := hx 0
    have h1 := hx 1
    have h2 := hx 2
    have h3 := hx 3
    by_cases a1 : x 0 < 128
    · have : sz (x 0) = 1 := by unfold sz; rw [if_pos a1]
      rw [this]
      simp [val]
      omega
    · by_cases a2 : x 0 < 194
      · have : sz (x 0) = 0 := by unfold sz; rw [if_neg a1, if_pos a2]
        rw [this] at hw
        rw [if_neg (by omega)] at hw
        omega
      · by_cases a3 : x 0 < 224
        · have : sz (x 0) = 2 := by unfold sz; rw [if_neg a1, if_neg a2, if_pos a3]
          rw [this]
          simp [val]
          omega
        · by_cases a4 : x 0 < 240
          · have hs : sz (x 0) = 3 := by unfold sz; rw [if_neg a1, if_neg a2, if_neg a3, if_pos a4]
            rw [hs] at hw ⊢
            simp only [val, Nat.reduceEqDiff, if_false, if_true]
            by_cases c1 : 1 < 3 ∧ 1 < n ∧ lo (x 0) ≤ x 1 ∧ x 1 ≤ hi (x 0)
            · have hh : x 0 = 237 → x 1 ≤ 159 := fun e => by
                have := c1.2.2.2
                rw [e] at this
                exact this
              have hh2 : x 1 ≤ 191 := Nat.le_trans c1.2.2.2 (hi_le _)
              have hh3 : 128 ≤ x 1 := Nat.le_trans (lo_ge _ (by omega)) c1.2.2.1
              omega
            · rw [if_neg c1] at hw
              omega
          · by_cases a5 : x 0 < 245
            · have hs : sz (x 0) = 4 := by unfold sz; rw [if_neg a1, if_neg a2, if_neg a3, if_neg a4, if_pos a5]
              rw [hs] at hw ⊢
              simp only [val, Nat.reduceEqDiff, if_false, if_true]
              by_cases c1 : 1 < 4 ∧ 1 < n ∧ lo (x 0) ≤ x 1 ∧ x 1 ≤ hi (x 0)
              · have hh : x 0 = 244 → x 1 ≤ 143 := fun e => by
                  have := c1.2.2.2
                  rw [e] at this
                  exact this
                have hh1 : x 0 = 240 → 144 ≤ x 1 := fun e => by
                  have := c1.2.2.1
                  rw [e] at this
                  exact this
                have hh2 : x 1 ≤ 191 := Nat.le_trans c1.2.2.2 (hi_le _)
                have hh3 : 128 ≤ x 1 := Nat.le_trans (lo_ge _ (by omega)) c1.2.2.1
                right
                omega
              · rw [if_neg c1] at hw
                omega
            · have : sz (x 0) = 0 := by unfold sz; rw [if_neg a1, if_neg a2, if_neg a3, if_neg a4, if_neg a5]
              rw [this] at hw
              rw [if_neg (by omega)] at hw
              omega
  · omega
theorem rest_right (n : Nat) (x : Nat → Nat) (hx : ∀ j, x j < 256) : ∀ f k, n - k ≤ f → ∀ s ∈ rest n x k, s.1 < 55296 ∨ (57343 < s.1 ∧ s.1 ≤ 1114111) := by
  intro f
  induction f with
  | zero => intro k h s hs; rw [rest_end _ _ _ (by omega)] at hs; cases hs
  | succ f ih =>
    intro k h s hs
    by_cases hk : k < n
    · rw [rest_step _ _ _ hk] at hs
      have hp := cnt_pos (n - k) (fun j => x (k + j))
      rcases List.mem_cons.1 hs with rfl | hs
      · exact num_right _ _ (fun j => hx _)
      · exact ih _ (by omega) s hs
    · rw [rest_end _ _ _ (by omega)] at hs; cases hs
end Sg
end Go.Proofs.YtjgbfpemkjpikaaDoor
