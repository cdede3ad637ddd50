/-
  Columns, what is empty at a line's end, gaps, in plain words; no program in it. (For layers 13 to 18 and 22.)
-/
import Derived.Test.YtegoadhnilmchaaCe0
namespace Go.Proofs.Ytegoadhnilmchaa
set_option linter.unusedVariables false
set_option linter.unusedSimpArgs false
namespace Sp
/-- the cluster of a place. -/
def at' (C : List Ct) (i : Nat) : Ct := C.getD i ⟨0, 0, 0, 0⟩
/-- the column behind a cluster that begins at one. -/
def nx (c : Ct) (t col : Nat) : Nat := if c.kind = 2 then (col / t + 1) * t else col + c.cells.toNat
/-- the column behind k clusters from a boundary on. -/
def col (C : List Ct) (t a : Nat) : Nat → Nat
  | 0 => 0
  | k + 1 => nx (at' C (a + k)) t (col C t a k)
/-- all columns from a boundary on. -/
def cols (C : List Ct) (t a k : Nat) : List Nat := (List.range (k + 1)).map (col C t a)
def emp (c : Ct) : Bool := c.kind == 1 || (c.kind == 0 && c.cells == 0)
/-- the boundary behind the last of k clusters that isn't empty. -/
def tr (C : List Ct) (a : Nat) : Nat → Nat
  | 0 => a
  | k + 1 => if emp (at' C (a + k)) then tr C a k else a + k + 1
/-- how wide, without a hyphen. -/
def wd (C : List Ct) (t a k : Nat) : Nat := col C t a (tr C a k - a)
/-- Spaces among k clusters. -/
def sps (C : List Ct) (a : Nat) : Nat → Nat
  | 0 => 0
  | k + 1 => sps C a k + (if (at' C (a + k)).kind = 1 then 1 else 0)
def gp (C : List Ct) (a k : Nat) : Nat := sps C a (tr C a k - a)
theorem tab_gt {t c : Nat} (h : 0 < t) : c < (c / t + 1) * t ∧ (c / t + 1) * t ≤ c + t ∧ (c / t + 1) * t % t = 0 := by
  have h1 := Nat.div_add_mod c t
  have h2 := Nat.mod_lt c h
  rw [Nat.add_mul, Nat.one_mul, Nat.mul_comm (c / t) t]
  refine ⟨by omega, by omega, ?_⟩
  rw [Nat.add_mod_right, Nat.mul_mod_right]
/-- between a column and the next multiple none is one. -/
theorem tab_first {t c n : Nat} (h : 0 < t) (h1 : c < n) (h2 : n % t = 0) : (c / t + 1) * t ≤ n := by
  obtain ⟨q, rfl⟩ : ∃ q, n = t * q := ⟨n / t, by have := Nat.div_add_mod n t; omega⟩
  have : c / t < q := by rw [Nat.div_lt_iff_lt_mul h, Nat.mul_comm]; exact h1
  calc (c / t + 1) * t ≤ q * t := Nat.mul_le_mul_right _ (by omega)
    _ = t * q := Nat.mul_comm _ _
theorem nx_ge {c : Ct} {t x : Nat} (h : 0 < t) : x ≤ nx c t x := by
  unfold nx
  split
  · have := (tab_gt (c := x) h).1; omega
  · omega
theorem nx_mono {c : Ct} {t x y : Nat} (h : x ≤ y) : nx c t x ≤ nx c t y := by
  unfold nx
  split
  · exact Nat.mul_le_mul_right _ (by have := Nat.div_le_div_right (c := t) h; omega)
  · omega
theorem col_step (C : List Ct) {t : Nat} (h : 0 < t) (a k : Nat) : col C t a k ≤ col C t a (k + 1) := nx_ge h
theorem col_mono (C : List Ct) {t : Nat} (h : 0 < t) (a : Nat) {j k : Nat} (hj : j ≤ k) : col C t a j ≤ col C t a k := by
  induction k with
  | zero => have : j = 0 := by omega
            subst this; exact Nat.le_refl _
  | succ k ih =>
    rcases Nat.lt_or_ge j (k + 1) with g | g
    · exact Nat.le_trans (ih (by omega)) (col_step C h a k)
    · have : j = k + 1 := by omega
      subst this; exact Nat.le_refl _
theorem cols_len (C : List Ct) (t a k : Nat) : (cols C t a k).length = k + 1 := by simp [cols]
theorem cols_at {C : List Ct} {t a k j : Nat} (h : j ≤ k) : (cols C t a k)[j]? = some (col C t a j) := by
  unfold cols
  rw [List.getElem?_map, List.getElem?_range (by omega)]
  rfl
theorem cols_succ (C : List Ct) (t a k : Nat) : cols C t a (k + 1) = cols C t a k ++ [col C t a (k + 1)] := by
  unfold cols
  rw [List.range_succ, List.map_append]
  rfl
theorem tr_ge (C : List Ct) (a : Nat) : ∀ k, a ≤ tr C a k ∧ tr C a k ≤ a + k
  | 0 => ⟨Nat.le_refl _, Nat.le_refl _⟩
  | k + 1 => by
    have := tr_ge C a k
    unfold tr
    split <;> omega
theorem tr_mono (C : List Ct) (a : Nat) {j k : Nat} (h : j ≤ k) : tr C a j ≤ tr C a k := by
  induction k with
  | zero => have : j = 0 := by omega
            subst this; exact Nat.le_refl _
  | succ k ih =>
    rcases Nat.lt_or_ge j (k + 1) with g | g
    · have h1 := ih (by omega)
      have h2 := (tr_ge C a j).2
      have h3 : tr C a k ≤ tr C a (k + 1) := by
        have := (tr_ge C a k).2
        show tr C a k ≤ if emp (at' C (a + k)) then tr C a k else a + k + 1
        split <;> omega
      omega
    · have : j = k + 1 := by omega
      subst this; exact Nat.le_refl _
/-- cut back, it is cut back no further. -/
theorem tr_tr (C : List Ct) (a : Nat) : ∀ k, tr C a (tr C a k - a) = tr C a k
  | 0 => by simp [tr]
  | k + 1 => by
    have ih := tr_tr C a k
    by_cases h : emp (at' C (a + k)) = true
    · have e : tr C a (k + 1) = tr C a k := by
        show (if emp (at' C (a + k)) then tr C a k else a + k + 1) = _
        rw [if_pos h]
      rw [e]; exact ih
    · have e : tr C a (k + 1) = a + k + 1 := by
        show (if emp (at' C (a + k)) then tr C a k else a + k + 1) = _
        rw [if_neg h]
      rw [e]
      have : a + k + 1 - a = k + 1 := by omega
      rw [this, e]
theorem wd_mono (C : List Ct) {t : Nat} (h : 0 < t) (a : Nat) {j k : Nat} (hj : j ≤ k) : wd C t a j ≤ wd C t a k :=
  col_mono C h a (by have := tr_mono C a hj; omega)
theorem wd_tr (C : List Ct) (t a k : Nat) : wd C t a (tr C a k - a) = wd C t a k := by unfold wd; rw [tr_tr]
theorem gp_tr (C : List Ct) (a k : Nat) : gp C a (tr C a k - a) = gp C a k := by unfold gp; rw [tr_tr]
/-- without tabs columns add up. -/
theorem col_add (C : List Ct) (t a m : Nat) (h : ∀ i, (at' C i).kind ≠ 2) : ∀ k, col C t a (m + k) = col C t a m + col C t (a + m) k
  | 0 => rfl
  | k + 1 => by
    have ih := col_add C t a m h k
    show nx (at' C (a + (m + k))) t (col C t a (m + k)) = col C t a m + nx (at' C (a + m + k)) t (col C t (a + m) k)
    have e : a + (m + k) = a + m + k := by omega
    rw [ih, e]
    unfold nx
    rw [if_neg (h _), if_neg (h _)]
    omega
theorem nx_tab {c : Ct} {t x : Nat} (h : 0 < t) (hk : c.kind = 2) : nx c t x % t = 0 ∧ x + 1 ≤ nx c t x ∧ nx c t x ≤ x + t := by
  unfold nx
  rw [if_pos hk]
  have := tab_gt (c := x) h
  exact ⟨this.2.2, this.1, this.2.1⟩
/-- how wide k clusters of at most so many cells are. -/
theorem col_le (C : List Ct) {t : Nat} (h : 0 < t) (h2 : ∀ i, (at' C i).cells ≤ 2) (a : Nat) : ∀ k, col C t a k ≤ k * (t + 2)
  | 0 => Nat.zero_le _
  | k + 1 => by
    have ih := col_le C h h2 a k
    have h3 := h2 (a + k)
    show nx (at' C (a + k)) t (col C t a k) ≤ _
    have e : (k + 1) * (t + 2) = k * (t + 2) + (t + 2) := by rw [Nat.add_mul, Nat.one_mul]
    rw [e]
    unfold nx
    split
    · have := (tab_gt (c := col C t a k) h).2.1; omega
    · omega
end Sp
end Go.Proofs.Ytegoadhnilmchaa
