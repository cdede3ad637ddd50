/-
  More marks, as they are laid one by one.
-/
import Derived.Test.YtlcpfheocenjfaaWd
import Derived.Test.YtlcpfheocenjfaaCe5
namespace Go.Proofs.Ytlcpfheocenjfaa
open Go.RowKit Go.Maps
set_option linter.unusedVariables false
set_option linter.unusedSimpArgs false
def mrow (A B : List Nat) (n i : Nat) : Array Value := rowOf n (fun j => .int .u8 ((if j < i then Ce.mo A B j else 0 : Nat) : Int))
theorem mrow_at {A B : List Nat} {n i : Nat} (h : i < n) : (mrow A B n i)[i]? = some (.int .u8 0) := by
  unfold mrow
  rw [rowOf_at _ h, if_neg (Nat.lt_irrefl i)]
  rfl
theorem mrow_put {A B : List Nat} {n i v : Nat} (hv : v = Ce.mo A B i) : (mrow A B n i).setIfInBounds i (.int .u8 (v : Int)) = mrow A B n (i + 1) := by
  unfold mrow
  rw [rowOf_set]
  unfold rowOf
  congr 2
  funext j
  by_cases hj : j = i
  · rw [if_pos hj, if_pos (by omega), hj, hv]
  · rw [if_neg hj]
    by_cases hj2 : j < i
    · rw [if_pos hj2, if_pos (by omega)]
    · rw [if_neg hj2, if_neg (by omega)]
theorem mrow_put2 {A B : List Nat} {n i u v : Nat} (hv : v = Ce.mo A B i) : ((mrow A B n i).setIfInBounds i (.int .u8 (u : Int))).setIfInBounds i (.int .u8 (v : Int)) = mrow A B n (i + 1) := by
  rw [← mrow_put hv]
  unfold mrow
  rw [rowOf_set, rowOf_set, rowOf_set]
  unfold rowOf
  congr 2
  funext j
  by_cases hj : j = i
  · rw [if_pos hj, if_pos hj]
  · rw [if_neg hj, if_neg hj, if_neg hj]
theorem mrow_no {A B : List Nat} {n i : Nat} (hv : Ce.mo A B i = 0) : mrow A B n i = mrow A B n (i + 1) := by
  unfold mrow rowOf
  congr 2
  funext j
  by_cases hj : j = i
  · rw [hj, if_neg (Nat.lt_irrefl i), if_pos (by omega), hv]
  · by_cases hj2 : j < i
    · rw [if_pos hj2, if_pos (by omega)]
    · rw [if_neg hj2, if_neg (by omega)]
theorem mrow_full (A B : List Nat) (n : Nat) : mrow A B n n = (u8s (Ce.more A B n)).toArray := by
  unfold mrow rowOf u8s Ce.more
  rw [List.map_map]
  congr 1
  apply List.map_congr_left
  intro j hj
  rw [if_pos (List.mem_range.1 hj)]
  rfl
theorem mo_b {A B : List Nat} {i y : Nat} (h : B[i]? = some y) (hy : y ≠ 0) : y = Ce.mo A B i := by
  unfold Ce.mo
  rw [List.getD_eq_getElem?_getD (l := B), h]
  show y = if y ≠ 0 then y else _
  rw [if_pos hy]
theorem mo_a {A B : List Nat} {i : Nat} (h : B.getD i 0 = 0) : Ce.mo A B i = A.getD i 0 := by
  unfold Ce.mo
  rw [h, if_neg (by simp)]
theorem getD_at {L : List Nat} {i x : Nat} (h : L[i]? = some x) : L.getD i 0 = x := by rw [List.getD_eq_getElem?_getD, h]; rfl
theorem getD_no {L : List Nat} {i : Nat} (h : L.length ≤ i) : L.getD i 0 = 0 := by rw [List.getD_eq_getElem?_getD, List.getElem?_eq_none h]; rfl
theorem more_lt {A B : List Nat} {n : Nat} (hA : ∀ x ∈ A, x < 256) (hB : ∀ x ∈ B, x < 256) : ∀ x ∈ Ce.more A B n, x < 256 := fun x hx => by
  obtain ⟨j, _, rfl⟩ := List.mem_map.1 hx
  have ga : A.getD j 0 < 256 := by
    rw [List.getD_eq_getElem?_getD]
    cases h : A[j]? with
    | none => exact Nat.zero_lt_succ 255
    | some y => exact hA y (List.mem_of_getElem? h)
  have gb : B.getD j 0 < 256 := by
    rw [List.getD_eq_getElem?_getD]
    cases h : B[j]? with
    | none => exact Nat.zero_lt_succ 255
    | some y => exact hB y (List.mem_of_getElem? h)
  unfold Ce.mo
  split
  · exact gb
  · exact ga
end Go.Proofs.Ytlcpfheocenjfaa
