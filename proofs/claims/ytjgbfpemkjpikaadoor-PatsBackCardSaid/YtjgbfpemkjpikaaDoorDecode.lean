/-
  What Go's own decoder tells of bytes is what the plain functions tell: a whole sign's number and bytes; else U+FFFD and one byte.
-/
import Derived.Test.YtjgbfpemkjpikaaDoorMath
import Derived.Test.YtjgbfpemkjpikaaDoorShelf
namespace Go.Proofs.YtjgbfpemkjpikaaDoor.Sg
open Go.Lib

theorem sz_cases (c : Nat) (h : c < 256) : (c < 128 ∧ sz c = 1) ∨ ((128 ≤ c ∧ c < 194 ∨ 245 ≤ c) ∧ sz c = 0) ∨ (194 ≤ c ∧ c < 224 ∧ sz c = 2 ∧ lo c = 128 ∧ hi c = 191) ∨
    (c = 224 ∧ sz c = 3 ∧ lo c = 160 ∧ hi c = 191) ∨ (c = 237 ∧ sz c = 3 ∧ lo c = 128 ∧ hi c = 159) ∨ (225 ≤ c ∧ c < 240 ∧ c ≠ 237 ∧ sz c = 3 ∧ lo c = 128 ∧ hi c = 191) ∨
    (c = 240 ∧ sz c = 4 ∧ lo c = 144 ∧ hi c = 191) ∨ (c = 244 ∧ sz c = 4 ∧ lo c = 128 ∧ hi c = 143) ∨ (241 ≤ c ∧ c < 244 ∧ sz c = 4 ∧ lo c = 128 ∧ hi c = 191) := by
  have H : ∀ c : Fin 256, (c.val < 128 ∧ sz c.val = 1) ∨ ((128 ≤ c.val ∧ c.val < 194 ∨ 245 ≤ c.val) ∧ sz c.val = 0) ∨ (194 ≤ c.val ∧ c.val < 224 ∧ sz c.val = 2 ∧ lo c.val = 128 ∧ hi c.val = 191) ∨
    (c.val = 224 ∧ sz c.val = 3 ∧ lo c.val = 160 ∧ hi c.val = 191) ∨ (c.val = 237 ∧ sz c.val = 3 ∧ lo c.val = 128 ∧ hi c.val = 159) ∨ (225 ≤ c.val ∧ c.val < 240 ∧ c.val ≠ 237 ∧ sz c.val = 3 ∧ lo c.val = 128 ∧ hi c.val = 191) ∨
    (c.val = 240 ∧ sz c.val = 4 ∧ lo c.val = 144 ∧ hi c.val = 191) ∨ (c.val = 244 ∧ sz c.val = 4 ∧ lo c.val = 128 ∧ hi c.val = 143) ∨ (241 ≤ c.val ∧ c.val < 244 ∧ sz c.val = 4 ∧ lo c.val = 128 ∧ hi c.val = 191) := by decide +kernel
  exact H ⟨c, h⟩

set_option maxHeartbeats 2000000 in
theorem decode_sg (m : Nat) (y : Nat → Nat) (hm : 0 < m) (hy : ∀ j, y j < 256) (b1 b2 b3 : Nat) (h1 : 1 < m → b1 = y 1) (h2 : 2 < m → b2 = y 2) (h3 : 3 < m → b3 = y 3) :
    decodeN m (y 0) b1 b2 b3 = if whole m y then (val y (cnt m y), cnt m y) else (65533, 1) := by
  have q0 := hy 0
  have q1 := hy 1
  have q2 := hy 2
  have q3 := hy 3
  clear hy
  have hc := sz_cases (y 0) q0
  unfold whole cnt
  generalize sz (y 0) = s at *
  generalize lo (y 0) = l at *
  generalize hi (y 0) = u at *
  unfold val
  generalize y 0 = c at *
  generalize y 1 = y1 at *
  generalize y 2 = y2 at *
  generalize y 3 = y3 at *
  unfold decodeN
  by_cases p1 : 1 < s ∧ 1 < m ∧ l ≤ y1 ∧ y1 ≤ u
  · by_cases p2 : 2 < s ∧ 2 < m ∧ 128 ≤ y2 ∧ y2 ≤ 191
    · by_cases p3 : 3 < s ∧ 3 < m ∧ 128 ≤ y3 ∧ y3 ≤ 191
      · have e1 := h1 p1.2.1
        have e2 := h2 p2.2.1
        have e3 := h3 p3.2.1
        subst e1 e2 e3
        simp only [if_pos p1, if_pos p2, if_pos p3]
        have hs : s = 4 := by omega
        subst hs
        rw [if_neg (by omega), if_neg (by omega), if_neg (by omega), if_pos (by omega), if_pos (by omega)]
        rfl
      · have e1 := h1 p1.2.1
        have e2 := h2 p2.2.1
        subst e1 e2
        simp only [if_pos p1, if_pos p2, if_neg p3]
        by_cases hs : s = 3
        · subst hs
          rw [if_neg (by omega), if_neg (by omega), if_pos (by omega), if_pos (by omega)]
          rfl
        · rw [if_neg (by omega), if_neg (by omega), if_neg (by omega), if_neg (by omega), if_neg (by simp; omega)]
    · have e1 := h1 p1.2.1
      subst e1
      simp only [if_pos p1, if_neg p2]
      by_cases hs : s = 2
      · subst hs
        rw [if_neg (by omega), if_pos (by omega), if_pos (by omega)]
        rfl
      · rw [if_neg (by omega), if_neg (by omega), if_neg (by omega), if_neg (by omega), if_neg (by simp; omega)]
  · simp only [if_neg p1]
    by_cases hs : s = 1
    · subst hs
      rw [if_pos (by omega)]
      rfl
    · have hw : ((1 : Nat) == s) = false := beq_eq_false_iff_ne.2 (by omega)
      rw [hw, if_neg (by omega)]
      simp only [Bool.false_eq_true, if_false]
      by_cases r1 : 1 < m
      · have e1 := h1 r1
        subst e1
        by_cases r2 : 2 < m
        · have e2 := h2 r2
          subst e2
          by_cases r3 : 3 < m
          · have e3 := h3 r3
            subst e3
            clear h1 h2 h3 hw
            (repeat' split) <;> first | (exfalso; omega) | rfl
          · clear h1 h2 h3 hw
            (repeat' split) <;> first | (exfalso; omega) | rfl
        · clear h1 h2 h3 hw
          (repeat' split) <;> first | (exfalso; omega) | rfl
      · clear h1 h2 h3 hw
        (repeat' split) <;> first | (exfalso; omega) | rfl

/-- so many bytes as one array. -/
def arr (m : Nat) (y : Nat → Nat) : ByteArray := ⟨Array.ofFn (fun i : Fin m => UInt8.ofNat (y i.val))⟩
theorem arr_size (m : Nat) (y : Nat → Nat) : (arr m y).size = m := by simp [arr, ByteArray.size]
theorem arr_get (m : Nat) (y : Nat → Nat) (hy : ∀ j, y j < 256) (j : Nat) (h : j < m) : ((arr m y).get! j).toNat = y j := by
  rw [Utf8W.get!_of_lt _ _ (by rw [arr_size]; exact h)]
  show ((arr m y).data[j]'_).toNat = y j
  simp only [arr, Array.getElem_ofFn]
  rw [UInt8.toNat_ofNat']
  have := hy j
  omega
theorem decode_arr (m : Nat) (y : Nat → Nat) (hm : 0 < m) (hy : ∀ j, y j < 256) : decodeGo (arr m y) = if whole m y then (val y (cnt m y), cnt m y) else (65533, 1) := by
  unfold decodeGo
  rw [if_neg (by rw [arr_size]; omega), Lib.decode_at, arr_size, Nat.sub_zero, arr_get m y hy 0 hm]
  exact decode_sg m y hm hy _ _ _ (fun h => arr_get m y hy 1 h) (fun h => arr_get m y hy 2 h) (fun h => arr_get m y hy 3 h)
end Go.Proofs.YtjgbfpemkjpikaaDoor.Sg
