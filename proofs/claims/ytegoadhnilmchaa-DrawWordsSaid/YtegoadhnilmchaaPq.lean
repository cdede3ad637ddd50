/-
  A text's parts, in plain words.
-/
import Derived.Test.YtegoadhnilmchaaPt
namespace Go.Proofs.Ytegoadhnilmchaa
set_option linter.unusedVariables false
set_option linter.unusedSimpArgs false
namespace It
/-- where part i begins. -/
def fr (P : List Nat) (i : Nat) : Nat := if i = 0 then 0 else P.getD (i - 1) 0
theorem fr_zero (P : List Nat) : fr P 0 = 0 := rfl
theorem fr_succ (P : List Nat) {i x : Nat} (h : P[i]? = some x) : fr P (i + 1) = x := by
  unfold fr
  rw [if_neg (by omega), Nat.add_sub_cancel, List.getD_eq_getElem?_getD, h]
  rfl
theorem parts_mem {O : List Nat} {k x : Nat} (h : x ∈ parts O k) : x < k ∧ O.getD x 0 = 2 := by
  unfold parts at h
  rw [List.mem_filter] at h
  exact ⟨by simpa using h.1, by simpa using h.2⟩
theorem parts_at {O : List Nat} {k i x : Nat} (h : (parts O k)[i]? = some x) : x < k ∧ O.getD x 0 = 2 := parts_mem (List.mem_of_getElem? h)
theorem parts_sorted (O : List Nat) (k : Nat) : (parts O k).Pairwise (· < ·) := by
  unfold parts
  exact List.Pairwise.filter _ List.pairwise_lt_range
theorem parts_lt {O : List Nat} {k i j x y : Nat} (hij : i < j) (hi : (parts O k)[i]? = some x) (hj : (parts O k)[j]? = some y) : x < y := by
  obtain ⟨h1, e1⟩ := List.getElem?_eq_some_iff.1 hi
  obtain ⟨h2, e2⟩ := List.getElem?_eq_some_iff.1 hj
  have := List.pairwise_iff_getElem.1 (parts_sorted O k) i j h1 h2 hij
  rw [e1, e2] at this
  exact this
/-- a part goes on from where the last one ended. -/
theorem fr_le {O : List Nat} {k i x : Nat} (h : (parts O k)[i]? = some x) : fr (parts O k) i ≤ x ∧ (0 < i → fr (parts O k) i < x) := by
  cases i with
  | zero => exact ⟨Nat.zero_le _, fun h => by omega⟩
  | succ i =>
    have hi := (List.getElem?_eq_some_iff.1 h).1
    have hx : (parts O k)[i]? = some (parts O k)[i] := List.getElem?_eq_getElem (by omega)
    rw [fr_succ _ hx]
    have := parts_lt (Nat.lt_succ_self i) hx h
    exact ⟨Nat.le_of_lt this, fun _ => this⟩
/-- every boundary of Must is one. -/
theorem parts_all {O : List Nat} {k x : Nat} (h : x < k) (hx : O.getD x 0 = 2) : x ∈ parts O k := by
  unfold parts
  rw [List.mem_filter]
  exact ⟨by simpa using h, by simpa using hx⟩
/-- within a part there is none. -/
theorem parts_none {O : List Nat} {k i x y : Nat} (h : (parts O k)[i]? = some x) (h1 : fr (parts O k) i < y) (h2 : y < x) : O.getD y 0 ≠ 2 := fun hy => by
  have hm := parts_all (k := k) (by have := (parts_at h).1; omega) hy
  obtain ⟨j, hj, e⟩ := List.getElem_of_mem hm
  have hj2 : (parts O k)[j]? = some y := by rw [List.getElem?_eq_getElem hj, e]
  rcases Nat.lt_trichotomy j i with g | g | g
  · cases i with
    | zero => omega
    | succ i =>
      have hi := (List.getElem?_eq_some_iff.1 h).1
      have hx : (parts O k)[i]? = some (parts O k)[i] := List.getElem?_eq_getElem (by omega)
      rw [fr_succ _ hx] at h1
      rcases Nat.lt_or_ge j i with g2 | g2
      · have := parts_lt g2 hj2 hx; omega
      · have : j = i := by omega
        subst this
        rw [hj2] at hx
        injection hx with hx
        omega
  · subst g
    rw [h] at hj2
    injection hj2 with hj2
    omega
  · have := parts_lt g h hj2; omega
end It
end Go.Proofs.Ytegoadhnilmchaa
