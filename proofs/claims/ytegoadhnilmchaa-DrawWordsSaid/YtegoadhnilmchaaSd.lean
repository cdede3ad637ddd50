/-
  Room over gaps, in plain words; no program in it. (For layer 18.)
-/
import Derived.Below
namespace Go.Proofs.Ytegoadhnilmchaa
set_option linter.unusedVariables false
set_option linter.unusedSimpArgs false
namespace Sd
/-- what the gap of a place gets, of so much room over so many gaps. -/
def sp (r g i : Nat) : Nat := r * (i + 1) / g - r * i / g
def all (r g : Nat) : List Nat := (List.range g).map (sp r g)
theorem all_len (r g : Nat) : (all r g).length = g := by simp [all]
theorem mono (r : Nat) {g i j : Nat} (h : i ≤ j) : r * i / g ≤ r * j / g := Nat.div_le_div_right (Nat.mul_le_mul_left r h)
theorem sp_add (r g i : Nat) : r * i / g + sp r g i = r * (i + 1) / g := by
  have := mono r (g := g) (show i ≤ i + 1 by omega)
  unfold sp
  omega
def sum : List Nat → Nat
  | [] => 0
  | x :: L => x + sum L
theorem sum_append : ∀ (a b : List Nat), sum (a ++ b) = sum a + sum b
  | [], b => by simp [sum]
  | x :: a, b => by simp [sum, sum_append a b]; omega
theorem sum_upto (r g : Nat) : ∀ k, sum ((List.range k).map (sp r g)) = r * k / g
  | 0 => by simp [sum]
  | k + 1 => by
    rw [List.range_succ, List.map_append, sum_append, sum_upto r g k]
    show r * k / g + (sp r g k + 0) = _
    rw [Nat.add_zero, sp_add]
/-- all room is spread. -/
theorem sum_all {r g : Nat} (h : 0 < g) : sum (all r g) = r := by
  unfold all
  rw [sum_upto, Nat.mul_div_cancel _ h]
/-- each gets the whole part, or one more. -/
theorem sp_two {r g : Nat} (h : 0 < g) (i : Nat) : r / g ≤ sp r g i ∧ sp r g i ≤ r / g + 1 := by
  have e : r * (i + 1) = r * i + r := by rw [Nat.mul_succ]
  have h1 := sp_add r g i
  have a1 := Nat.div_add_mod (r * i) g
  have a2 := Nat.div_add_mod r g
  have a3 := Nat.div_add_mod (r * (i + 1)) g
  have m1 := Nat.mod_lt (r * i) h
  have m2 := Nat.mod_lt r h
  have m3 := Nat.mod_lt (r * (i + 1)) h
  rw [e] at a3 m3
  rw [e] at h1
  generalize r * i / g = A at *
  generalize (r * i + r) / g = B at *
  generalize r / g = Q at *
  have hB : B = A + sp r g i := h1.symm
  rw [hB] at a3
  generalize sp r g i = S at *
  rw [Nat.mul_add] at a3
  generalize r * i = X at *
  have l1 : g * Q ≤ g * S + (g - 1) + 0 := by omega
  have l2 : g * S ≤ g * Q + (g - 1) + (g - 1) := by omega
  constructor
  · rcases Nat.lt_or_ge S Q with c | c
    · have : g * S + g ≤ g * Q := by
        have := Nat.mul_le_mul_left g (show S + 1 ≤ Q from c)
        rw [Nat.mul_succ] at this
        exact this
      omega
    · exact c
  · rcases Nat.lt_or_ge (Q + 1) S with c | c
    · have : g * Q + g + g ≤ g * S := by
        have := Nat.mul_le_mul_left g (show Q + 2 ≤ S from c)
        rw [Nat.mul_add] at this
        omega
      omega
    · exact c
/-- one of them gets just the whole part. -/
theorem sp_low {r g : Nat} (h : 0 < g) : ∃ i, i < g ∧ sp r g i = r / g := by
  refine ⟨0, h, ?_⟩
  unfold sp
  simp
/-- where something is over, one of them gets one more. -/
theorem sp_high {r g : Nat} (h : 0 < g) (hr : 0 < r % g) : ∃ i, i < g ∧ sp r g i = r / g + 1 := by
  by_cases hx : ∃ i, i < g ∧ sp r g i = r / g + 1
  · exact hx
  · exfalso
    have hall : ∀ i, i < g → sp r g i = r / g := fun i hi => by
      have := sp_two (r := r) h i
      rcases Nat.lt_or_ge (sp r g i) (r / g + 1) with c | c
      · omega
      · exact absurd ⟨i, hi, by omega⟩ hx
    have hs : ∀ k, k ≤ g → r * k / g = r / g * k := fun k hk => by
      induction k with
      | zero => simp
      | succ k ih =>
        rw [← sp_add, ih (by omega), hall k (by omega), Nat.mul_succ]
    have := hs g (Nat.le_refl _)
    rw [Nat.mul_div_cancel _ h] at this
    have e := Nat.div_add_mod r g
    rw [Nat.mul_comm] at e
    omega
/-- of gaps more none gets more than some gap of fewer does. -/
theorem sp_more {r g g' : Nat} (h : 0 < g) (hg : g ≤ g') (j : Nat) : ∃ i, i < g ∧ sp r g' j ≤ sp r g i := by
  have h2 := sp_two (r := r) (g := g') (by omega) j
  have hq : r / g' ≤ r / g := Nat.div_le_div_left hg h
  by_cases hr : 0 < r % g
  · obtain ⟨i, hi, e⟩ := sp_high h hr
    exact ⟨i, hi, by omega⟩
  · obtain ⟨i, hi, e⟩ := sp_low (r := r) h
    refine ⟨i, hi, ?_⟩
    rw [e]
    rcases Nat.lt_or_ge (r / g') (r / g) with c | c
    · omega
    · -- as many in each, and nothing over: then there are as many gaps, or no room
      have e1 := Nat.div_add_mod r g
      have e2 := Nat.div_add_mod r g'
      have q : r / g' = r / g := by omega
      rw [q] at e2
      have e0 : r % g = 0 := by omega
      rw [e0] at e1
      generalize r / g = Q at *
      rcases Nat.eq_zero_or_pos Q with z | z
      · subst z
        have hr0 : r = 0 := by simpa using e1.symm
        subst hr0
        unfold sp
        simp
      · have e3 : g = g' := by
          have l : g' * Q ≤ g * Q := by omega
          have := Nat.le_of_mul_le_mul_right l z
          omega
        subst e3
        unfold sp
        rw [← e1, Nat.add_zero, Nat.mul_assoc, Nat.mul_assoc, Nat.mul_div_cancel_left _ h, Nat.mul_div_cancel_left _ h, Nat.mul_succ]
        omega
/-- so much more for each gap is so much more in each. -/
theorem sp_whole {r g k : Nat} (h : 0 < g) (i : Nat) : sp (r + k * g) g i = sp r g i + k := by
  have e : ∀ j, (r + k * g) * j / g = r * j / g + k * j := fun j => by
    rw [Nat.add_mul, Nat.mul_right_comm, Nat.add_mul_div_right _ _ h]
  have h1 := sp_add (r + k * g) g i
  rw [e, e] at h1
  have h2 := sp_add r g i
  have e3 : k * (i + 1) = k * i + k := Nat.mul_succ k i
  rw [e3] at h1
  omega
theorem sp_each {g k : Nat} (h : 0 < g) (i : Nat) : sp (k * g) g i = k := by
  have := sp_whole (r := 0) (k := k) h i
  rw [Nat.zero_add] at this
  rw [this]
  unfold sp
  simp
end Sd
end Go.Proofs.Ytegoadhnilmchaa
