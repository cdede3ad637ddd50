/-
  Signs that are Bad: how many of their bytes begin a right sign; that utf8.Valid returns a bool of each of them.
-/
import Derived.Test.YtaddjinjfdignabDoorValid2
namespace Go.Proofs.YtaddjinjfdignabDoor
open Go.RowKit
set_option linter.unusedVariables false

theorem whole_fffd {m : Nat} {y : Nat → Nat} (hy : ∀ j, y j < 256) (h : Sg.whole m y = true) (hv : Sg.num m y = 65533) : Sg.cnt m y = 3 := by
  have h' : Sg.cnt m y = Sg.sz (y 0) := by simpa [Sg.whole] using h
  have e : Sg.num m y = Sg.val y (Sg.cnt m y) := by unfold Sg.num; rw [h]; rfl
  rw [e] at hv
  have q0 := hy 0
  have hc := Sg.sz_cases (y 0) q0
  have hp := Sg.cnt_pos m y
  have h4 := Sg.cnt_le4 m y
  obtain h1 | h1 | h1 | h1 : Sg.cnt m y = 1 ∨ Sg.cnt m y = 2 ∨ Sg.cnt m y = 3 ∨ Sg.cnt m y = 4 := by omega
  · rw [h1] at hv; simp only [Sg.val, reduceIte] at hv; omega
  · rw [h1] at hv; simp only [Sg.val, reduceIte, Nat.reduceEqDiff] at hv; omega
  · exact h1
  · exfalso
    have hlo : Sg.lo (y 0) ≤ y 1 ∧ y 1 ≤ Sg.hi (y 0) := by
      unfold Sg.cnt at h1
      (repeat' split at h1) <;> omega
    rw [h1] at hv; simp only [Sg.val, Nat.reduceEqDiff, reduceIte] at hv; omega

theorem after_cells {wr w3 : World} {u0 u1 u2 : Value} (h : Below (wr.alloc (.cells #[u0, u1, u2] 28)).heap.size (wr.alloc (.cells #[u0, u1, u2] 28)) w3) :
    w3.cell? ⟨wr.heap.size, 0, none⟩ = some u0 ∧ w3.cell? ⟨wr.heap.size, 1, none⟩ = some u1 ∧ w3.cell? ⟨wr.heap.size, 2, none⟩ = some u2 ∧ Hid (Below wr.heap.size wr w3) :=
  ⟨(h.cell (p := ⟨wr.heap.size, 0, none⟩) (by simp)).trans (by simp), (h.cell (p := ⟨wr.heap.size, 1, none⟩) (by simp)).trans (by simp), (h.cell (p := ⟨wr.heap.size, 2, none⟩) (by simp)).trans (by simp), ((Below.refl _ wr).alloc (Nat.le_refl _) _).trans (h.mono (by simp))⟩

theorem at_place {n : Nat} {x : Nat → Nat} {i p : Nat} (h : (Sg.all n x).drop i = Sg.rest n x p) (hi : i < (Sg.all n x).length) (hp : p ≤ n) :
    p < n ∧ (Sg.all n x)[i]? = some (Sg.num (n - p) (fun j => x (p + j)), p, Sg.cnt (n - p) (fun j => x (p + j))) ∧ (Sg.all n x).drop (i + 1) = Sg.rest n x (p + Sg.cnt (n - p) (fun j => x (p + j))) := by
  have hpn : p < n := by
    by_cases hh : p < n
    · exact hh
    · rw [Sg.rest_end n x p (by omega)] at h
      have := congrArg List.length h
      simp at this
      omega
  rw [Sg.rest_step n x p hpn] at h
  refine ⟨hpn, ?_, ?_⟩
  · have := congrArg (·[0]?) h
    simpa using this
  · have := congrArg List.tail h
    simpa using this

theorem cnt_sz {m : Nat} {y : Nat → Nat} (h : 1 < Sg.cnt m y) : Sg.cnt m y ≤ Sg.sz (y 0) := by
  unfold Sg.cnt at *
  generalize Sg.sz (y 0) = s at *
  (repeat' split at h) <;> (repeat' split) <;> omega
theorem beg_yes {m : Nat} {y : Nat → Nat} (h : 1 < Sg.cnt m y) : Sg.beg (Sg.cnt m y) y = true := by
  unfold Sg.beg
  refine decide_eq_true ?_
  have hs := Sg.sz_le (y 0)
  unfold Sg.cnt at *
  generalize Sg.sz (y 0) = s at *
  generalize Sg.lo (y 0) = l at *
  generalize Sg.hi (y 0) = u at *
  by_cases p1 : 1 < s ∧ 1 < m ∧ l ≤ y 1 ∧ y 1 ≤ u
  · by_cases p2 : 2 < s ∧ 2 < m ∧ 128 ≤ y 2 ∧ y 2 ≤ 191
    · by_cases p3 : 3 < s ∧ 3 < m ∧ 128 ≤ y 3 ∧ y 3 ≤ 191
      · rw [if_pos p1, if_pos p2, if_pos p3] at h ⊢; omega
      · rw [if_pos p1, if_pos p2, if_neg p3] at h ⊢; omega
    · rw [if_pos p1, if_neg p2] at h ⊢; omega
  · rw [if_neg p1] at h ⊢; omega
theorem beg_no {m : Nat} {y : Nat → Nat} (h : Sg.cnt m y < m) : Sg.beg (Sg.cnt m y + 1) y = false := by
  unfold Sg.beg
  refine decide_eq_false ?_
  have hs := Sg.sz_le (y 0)
  unfold Sg.cnt at *
  generalize Sg.sz (y 0) = s at *
  generalize Sg.lo (y 0) = l at *
  generalize Sg.hi (y 0) = u at *
  by_cases p1 : 1 < s ∧ 1 < m ∧ l ≤ y 1 ∧ y 1 ≤ u
  · by_cases p2 : 2 < s ∧ 2 < m ∧ 128 ≤ y 2 ∧ y 2 ≤ 191
    · by_cases p3 : 3 < s ∧ 3 < m ∧ 128 ≤ y 3 ∧ y 3 ≤ 191
      · rw [if_pos p1, if_pos p2, if_pos p3] at h ⊢; omega
      · rw [if_pos p1, if_pos p2, if_neg p3] at h ⊢; omega
    · rw [if_pos p1, if_neg p2] at h ⊢; omega
  · rw [if_neg p1] at h ⊢; omega
theorem first_sz (c : Nat) (h : c < 256) : (Lib.firstT c = 240 ∧ c < 128) ∨ (Lib.firstT c = 241 ∧ Sg.sz c = 0 ∧ 128 ≤ c) ∨ (Lib.firstT c = 2 ∧ Sg.sz c = 2 ∧ 128 ≤ c) ∨ (Lib.firstT c = 19 ∧ Sg.sz c = 3 ∧ 128 ≤ c) ∨ (Lib.firstT c = 3 ∧ Sg.sz c = 3 ∧ 128 ≤ c) ∨
    (Lib.firstT c = 35 ∧ Sg.sz c = 3 ∧ 128 ≤ c) ∨ (Lib.firstT c = 52 ∧ Sg.sz c = 4 ∧ 128 ≤ c) ∨ (Lib.firstT c = 4 ∧ Sg.sz c = 4 ∧ 128 ≤ c) ∨ (Lib.firstT c = 68 ∧ Sg.sz c = 4 ∧ 128 ≤ c) := by
  have H : ∀ c : Fin 256, (Lib.firstT c.val = 240 ∧ c.val < 128) ∨ (Lib.firstT c.val = 241 ∧ Sg.sz c.val = 0 ∧ 128 ≤ c.val) ∨ (Lib.firstT c.val = 2 ∧ Sg.sz c.val = 2 ∧ 128 ≤ c.val) ∨ (Lib.firstT c.val = 19 ∧ Sg.sz c.val = 3 ∧ 128 ≤ c.val) ∨ (Lib.firstT c.val = 3 ∧ Sg.sz c.val = 3 ∧ 128 ≤ c.val) ∨
    (Lib.firstT c.val = 35 ∧ Sg.sz c.val = 3 ∧ 128 ≤ c.val) ∨ (Lib.firstT c.val = 52 ∧ Sg.sz c.val = 4 ∧ 128 ≤ c.val) ∨ (Lib.firstT c.val = 4 ∧ Sg.sz c.val = 4 ∧ 128 ≤ c.val) ∨ (Lib.firstT c.val = 68 ∧ Sg.sz c.val = 4 ∧ 128 ≤ c.val) := by decide +kernel
  exact H ⟨c, h⟩
theorem fffd_bytes {m : Nat} {y : Nat → Nat} (hy : ∀ j, y j < 256) (h : Sg.whole m y = true) (hv : Sg.num m y = 65533) : Sg.cnt m y = 3 ∧ y 0 = 239 ∧ y 1 = 191 ∧ y 2 = 189 := by
  have h3 := whole_fffd hy h hv
  have h' : Sg.cnt m y = Sg.sz (y 0) := by simpa [Sg.whole] using h
  have e : Sg.num m y = Sg.val y (Sg.cnt m y) := by unfold Sg.num; rw [h]; rfl
  rw [e, h3] at hv
  have hc := Sg.sz_cases (y 0) (hy 0)
  have hb : (Sg.lo (y 0) ≤ y 1 ∧ y 1 ≤ Sg.hi (y 0)) ∧ 128 ≤ y 2 ∧ y 2 ≤ 191 := by
    unfold Sg.cnt at h3
    (repeat' split at h3) <;> omega
  simp only [Sg.val, Nat.reduceEqDiff, reduceIte] at hv
  exact ⟨h3, by omega, by omega, by omega⟩
theorem valid_sign (m : Nat) (y : Nat → Nat) (b off cap : Nat) (w : World) (hz : 2 ≤ w.heap.size) (hm : 0 < m) (hmc : m ≤ cap) (hcap : cap ≤ 9223372036854775807) (hb : b < w.heap.size) (hy : ∀ j, y j < 256) (hT : Lib.Utf8Tabs 0 1 w)
    (hc : ∀ j, j < m → w.cell? ⟨b, off + j, none⟩ = some (.int .u8 (y j : Nat))) (hv : Sg.num m y = 65533) :
    Calls Tryd.prog 9 #[.slice (some ⟨b, off, none⟩) (Sg.cnt m y) cap] w fun e w' => ∃ r, e = .returned (.bool r) ∧ Below w.heap.size w w' := by
  have hp := Sg.cnt_pos m y
  have hl := Sg.cnt_le m y hm
  have hF := hT.1 (y 0) (hy 0)
  cases hw : Sg.whole m y with
  | true =>
    obtain ⟨h3, e0, e1, e2⟩ := fffd_bytes hy hw hv
    rw [h3]
    have c0 := hc 0 hm
    have c1 := hc 1 (by omega)
    have c2 := hc 2 (by omega)
    rw [e0] at c0 hF
    rw [e1] at c1
    rw [e2] at c2
    exact validFFFD b off cap w hz (by omega) hcap hb c0 c1 c2 hF (hT.2 0 (by omega)).1 (hT.2 0 (by omega)).2
  | false =>
    have hne : Sg.cnt m y ≠ Sg.sz (y 0) := by simpa [Sg.whole] using hw
    have hle : 1 < Sg.cnt m y → Sg.cnt m y ≤ Sg.sz (y 0) := cnt_sz
    have h1 : y 0 < 128 → Sg.sz (y 0) = 1 := fun h => by unfold Sg.sz; rw [if_pos h]
    have h1' : Sg.sz (y 0) = 1 → Sg.cnt m y = 1 := fun h => by
      by_cases hh : 1 < Sg.cnt m y
      · have := hle hh; omega
      · omega
    have c0 := hc 0 hm
    generalize Sg.cnt m y = L at *
    rcases first_sz (y 0) (hy 0) with h | h | h | h | h | h | h | h | h
    · exfalso; have := h1 h.2; have := h1' this; omega
    all_goals rw [h.1] at hF
    · exact valid241 L (y 0) b off cap w hz (by omega) (by omega) hcap hb (hy 0) h.2.2 c0 hF (hT.2 15 (by omega)).1 (hT.2 15 (by omega)).2
    · exact valid2 L (y 0) b off cap w hz (by omega) (by omega) hcap hb (hy 0) h.2.2 c0 (by omega) hF (hT.2 0 (by omega)).1 (hT.2 0 (by omega)).2
    · exact valid19 L (y 0) b off cap w hz (by omega) (by omega) hcap hb (hy 0) h.2.2 c0 (by omega) hF (hT.2 1 (by omega)).1 (hT.2 1 (by omega)).2
    · exact valid3 L (y 0) b off cap w hz (by omega) (by omega) hcap hb (hy 0) h.2.2 c0 (by omega) hF (hT.2 0 (by omega)).1 (hT.2 0 (by omega)).2
    · exact valid35 L (y 0) b off cap w hz (by omega) (by omega) hcap hb (hy 0) h.2.2 c0 (by omega) hF (hT.2 2 (by omega)).1 (hT.2 2 (by omega)).2
    · exact valid52 L (y 0) b off cap w hz (by omega) (by omega) hcap hb (hy 0) h.2.2 c0 (by omega) hF (hT.2 3 (by omega)).1 (hT.2 3 (by omega)).2
    · exact valid4 L (y 0) b off cap w hz (by omega) (by omega) hcap hb (hy 0) h.2.2 c0 (by omega) hF (hT.2 0 (by omega)).1 (hT.2 0 (by omega)).2
    · exact valid68 L (y 0) b off cap w hz (by omega) (by omega) hcap hb (hy 0) h.2.2 c0 (by omega) hF (hT.2 4 (by omega)).1 (hT.2 4 (by omega)).2
end Go.Proofs.YtaddjinjfdignabDoor
