/-
  More marks: clusters cut into clusters.
-/
import Derived.Test.YtlcpfheocenjfaaCe4
namespace Go.Proofs.Ytlcpfheocenjfaa
set_option linter.unusedVariables false
set_option linter.unusedSimpArgs false
namespace Ce
/-- the mark of a place: the second's, else the first's. -/
def mo (A B : List Nat) (i : Nat) : Nat := if B.getD i 0 ≠ 0 then B.getD i 0 else A.getD i 0
def more (A B : List Nat) (n : Nat) : List Nat := (List.range n).map (mo A B)
theorem more_len (A B : List Nat) (n : Nat) : (more A B n).length = n := by simp [more]
theorem more_at {A B : List Nat} {n i : Nat} (h : i < n) : (more A B n)[i]? = some (mo A B i) := by
  unfold more
  rw [List.getElem?_map, List.getElem?_range h]
  rfl
theorem more_cut {A B : List Nat} {n i : Nat} (h : i < n) (hc : cut A i = true) : cut (more A B n) i = true := by
  unfold cut at hc ⊢
  rw [Bool.or_eq_true] at hc ⊢
  rcases hc with hc | hc
  · exact Or.inl hc
  · refine Or.inr ?_
    rw [bne_iff_ne] at hc ⊢
    rw [List.getD_eq_getElem?_getD, more_at h]
    show mo A B i ≠ 0
    unfold mo
    split
    · assumption
    · exact hc
/-- where a cluster begins by the first marks, one begins by more. -/
theorem more_starts {A B : List Nat} {n i x : Nat} (h : (starts A n)[i]? = some x) : ∃ k : Nat, (starts (more A B (n + 1)) n)[k]? = some x := by
  have hm := List.mem_of_getElem? h
  have : x ∈ starts (more A B (n + 1)) n := by
    unfold starts at hm ⊢
    rw [List.mem_append] at hm ⊢
    rcases hm with hm | hm
    · obtain ⟨h1, h2⟩ := st_mem.1 hm
      exact Or.inl (st_mem.2 ⟨h1, more_cut (by omega) h2⟩)
    · exact Or.inr hm
  exact List.getElem?_of_mem this
/-- the next beginning isn't behind a later one. -/
theorem starts_next {M : List Nat} {n k k2 z y : Nat} (hz : (starts M n)[k]? = some z) (hy : (starts M n)[k2]? = some y) (h : z < y) : k < (st M n).length ∧ ∃ z2, (starts M n)[k + 1]? = some z2 ∧ z < z2 ∧ z2 ≤ y := by
  have hk2 := (List.getElem?_eq_some_iff.1 hy).1
  rw [starts_len] at hk2
  have hkk : k < k2 := by
    rcases Nat.lt_or_ge k k2 with h1 | h1
    · exact h1
    · rcases Nat.lt_or_ge k2 k with h2 | h2
      · have := starts_lt hy hz h2; omega
      · have e : k = k2 := by omega
        subst e
        rw [hz] at hy
        injection hy with hy
        omega
  obtain ⟨z2, hz2⟩ := starts_at (M := M) (n := n) (i := k + 1) (by omega)
  refine ⟨by omega, z2, hz2, starts_lt hz hz2 (by omega), ?_⟩
  rcases Nat.lt_or_ge (k + 1) k2 with h1 | h1
  · exact Nat.le_of_lt (starts_lt hz2 hy h1)
  · have e : k + 1 = k2 := by omega
    subst e
    rw [hz2] at hy
    injection hy with hy
    omega
theorem starts_end {M : List Nat} {n k : Nat} (h : (starts M n)[k]? = some n) : k = (st M n).length := by
  have hk := (List.getElem?_eq_some_iff.1 h).1
  rw [starts_len] at hk
  rcases Nat.lt_or_ge k (st M n).length with h1 | h1
  · have := starts_lt h (starts_last M n) h1; omega
  · omega
end Ce
end Go.Proofs.Ytlcpfheocenjfaa
