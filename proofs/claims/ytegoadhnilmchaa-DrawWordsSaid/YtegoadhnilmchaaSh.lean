/-
  Lines of a word with points everywhere; no program in it. (For layer 14: FirstHyphens.)
-/
import Derived.Test.YtegoadhnilmchaaSr
namespace Go.Proofs.Ytegoadhnilmchaa
set_option linter.unusedVariables false
set_option linter.unusedSimpArgs false
namespace Sp
theorem bst_eq {C : List Ct} {O : List Nat} {t W a m k : Nat} (h1 : a < k) (h2 : k ≤ a + m) (h3 : ok C O t W a k = true) (h4 : ∀ j, k < j → j ≤ a + m → ok C O t W a j = false) : bst C O t W a m = some k := by
  cases e : bst C O t W a m with
  | none =>
    have := bst_none e k h1 h2
    rw [h3] at this; cases this
  | some k' =>
    obtain ⟨g1, g2, g3, g4⟩ := bst_some e
    rcases Nat.lt_trichotomy k k' with g | g | g
    · have := h4 k' g g2
      rw [g3] at this; cases this
    · rw [g]
    · have := g4 k g h2
      rw [h3] at this; cases this
theorem bst_no {C : List Ct} {O : List Nat} {t W a m : Nat} (h : ∀ j, a < j → j ≤ a + m → ok C O t W a j = false) : bst C O t W a m = none := by
  cases e : bst C O t W a m with
  | none => rfl
  | some k =>
    obtain ⟨g1, g2, g3, _⟩ := bst_some e
    have := h k g1 g2
    rw [g3] at this; cases this
theorem fit_eq {C : List Ct} {t W a m k : Nat} (h1 : a < k) (h2 : k ≤ a + m) (h3 : wd C t a (k - a) ≤ W) (h4 : ∀ j, k < j → j ≤ a + m → W < wd C t a (j - a)) : fit C t W a m = some k := by
  cases e : fit C t W a m with
  | none => exact absurd (fit_none e k h1 h2) (by omega)
  | some k' =>
    obtain ⟨g1, g2, g3, g4⟩ := fit_some e
    rcases Nat.lt_trichotomy k k' with g | g | g
    · have := h4 k' g g2; omega
    · rw [g]
    · have := g4 k g h2; omega
/-- signs of one cell, none of them empty. -/
def Ones (C : List Ct) (n : Nat) : Prop := ∀ i, i < n → (at' C i).kind = 0 ∧ (at' C i).cells = 1
theorem ones_tr {C : List Ct} {n a : Nat} (h : Ones C n) : ∀ m, a + m ≤ n → tr C a m = a + m
  | 0, _ => rfl
  | m + 1, hm => by
    have := h (a + m) (by omega)
    show (if emp (at' C (a + m)) then tr C a m else a + m + 1) = _
    have e : emp (at' C (a + m)) = false := by
      unfold emp
      rw [this.1, this.2]
      decide
    rw [if_neg (by rw [e]; decide)]
    rfl
theorem ones_col {C : List Ct} {n t a : Nat} (h : Ones C n) : ∀ m, a + m ≤ n → col C t a m = m
  | 0, _ => rfl
  | m + 1, hm => by
    have := h (a + m) (by omega)
    show nx (at' C (a + m)) t (col C t a m) = _
    rw [ones_col h m (by omega)]
    unfold nx
    rw [if_neg (by rw [this.1]; decide), this.2]
    rfl
theorem ones_wd {C : List Ct} {n t a m : Nat} (h : Ones C n) (hm : a + m ≤ n) : wd C t a m = m := by
  unfold wd
  rw [ones_tr h m hm, ones_col h _ (by omega)]
  omega
/-- points everywhere within, Must at the end. -/
def Pts (O : List Nat) (n : Nat) : Prop := (∀ i, 0 < i → i < n → O.getD i 0 = 3) ∧ O.getD n 0 = 2
theorem hy_last {C : List Ct} {O : List Nat} {n t W a : Nat} (hC : Ones C n) (hO : Pts O n) (ha : a < n) (hr : n - a ≤ W) : nxt C O t W a n = (n, 2) := by
  have e := nxt_whole (C := C) (O := O) (t := t) (W := W) ha (by
    unfold ok wde
    rw [hO.2, ones_wd hC (by omega)]
    simp
    omega)
  rw [e, hO.2]
theorem hy_ok {C : List Ct} {O : List Nat} {n t W a j : Nat} (hC : Ones C n) (hO : Pts O n) (ha : a < j) (hj : j < n) : ok C O t W a j = decide (j - a + 1 ≤ W) := by
  unfold ok wde
  rw [hO.1 j (by omega) hj, ones_wd hC (by omega)]
  simp
theorem hy_ok_end {C : List Ct} {O : List Nat} {n t W a : Nat} (hC : Ones C n) (hO : Pts O n) (ha : a < n) : ok C O t W a n = decide (n - a ≤ W) := by
  unfold ok wde
  rw [hO.2, ones_wd hC (by omega)]
  simp
theorem hy_mid {C : List Ct} {O : List Nat} {n t W a : Nat} (hC : Ones C n) (hO : Pts O n) (ha : a < n) (hr : W < n - a) (hW : 2 ≤ W) : nxt C O t W a n = (a + (W - 1), 3) := by
  have hb : bst C O t W a (n - a) = some (a + (W - 1)) := by
    refine bst_eq (by omega) (by omega) ?_ (fun j h1 h2 => ?_)
    · rw [hy_ok hC hO (by omega) (by omega)]
      exact decide_eq_true (by omega)
    · by_cases hj : j < n
      · rw [hy_ok hC hO (by omega) hj]
        exact decide_eq_false (by omega)
      · obtain rfl : j = n := by omega
        rw [hy_ok_end hC hO ha]
        exact decide_eq_false (by omega)
  unfold nxt
  rw [hb]
  show (a + (W - 1), O.getD (a + (W - 1)) 0) = _
  rw [hO.1 _ (by omega) (by omega)]
theorem hy_one {C : List Ct} {O : List Nat} {n t a : Nat} (hC : Ones C n) (hO : Pts O n) (ha : a < n) (hr : 1 < n - a) : nxt C O t 1 a n = (a + 1, 4) := by
  have hb : bst C O t 1 a (n - a) = none := by
    refine bst_no (fun j h1 h2 => ?_)
    by_cases hj : j < n
    · rw [hy_ok hC hO h1 hj]
      exact decide_eq_false (by omega)
    · obtain rfl : j = n := by omega
      rw [hy_ok_end hC hO ha]
      exact decide_eq_false (by omega)
  have hf : fit C t 1 a (n - a) = some (a + 1) := by
    refine fit_eq (by omega) (by omega) ?_ (fun j h1 h2 => ?_)
    · rw [ones_wd hC (by omega)]; omega
    · rw [ones_wd hC (by omega)]; omega
  unfold nxt
  rw [hb, hf]
  show (a + 1, if O.getD (a + 1) 0 = 1 ∨ O.getD (a + 1) 0 = 2 then O.getD (a + 1) 0 else 4) = _
  rw [hO.1 _ (by omega) (by omega)]
  rfl
/-- how wide a line of such a word is. -/
theorem hy_wide {C : List Ct} {n t a b e : Nat} (hC : Ones C n) (ha : a ≤ b) (hb : b ≤ n) : wde C t a b e = b - a + (if e = 3 then 1 else 0) := by
  unfold wde
  rw [ones_wd hC (by omega)]
end Sp
end Go.Proofs.Ytegoadhnilmchaa
