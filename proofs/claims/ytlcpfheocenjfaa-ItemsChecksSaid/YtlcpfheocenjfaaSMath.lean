
/-
  Plain facts on bytes and signs: how many bytes begin a right sign, its number, and a text's signs. No program is named here.
-/
namespace Go.Proofs.Ytlcpfheocenjfaa.Sg

/-- how many bytes a sign with this first byte has; 0: none begins so. -/
def sz (c : Nat) : Nat := if c < 128 then 1 else if c < 194 then 0 else if c < 224 then 2 else if c < 240 then 3 else if c < 245 then 4 else 0
/-- the least second byte. -/
def lo (c : Nat) : Nat := if c < 194 then 0 else if c = 224 then 160 else if c = 240 then 144 else if c < 245 then 128 else 0
/-- the greatest second byte. -/
def hi (c : Nat) : Nat := if c < 194 then 0 else if c = 237 then 159 else if c = 244 then 143 else if c < 245 then 191 else 0
/-- how many bytes, one at least, begin a sign. -/
def cnt (n : Nat) (x : Nat → Nat) : Nat :=
  if 1 < sz (x 0) ∧ 1 < n ∧ lo (x 0) ≤ x 1 ∧ x 1 ≤ hi (x 0) then
    if 2 < sz (x 0) ∧ 2 < n ∧ 128 ≤ x 2 ∧ x 2 ≤ 191 then
      if 3 < sz (x 0) ∧ 3 < n ∧ 128 ≤ x 3 ∧ x 3 ≤ 191 then 4 else 3
    else 2
  else 1
/-- the number of a sign of so many bytes. -/
def val (x : Nat → Nat) (k : Nat) : Nat :=
  if k = 1 then x 0 else if k = 2 then x 0 % 32 * 64 + x 1 % 64 else if k = 3 then x 0 % 16 * 4096 + x 1 % 64 * 64 + x 2 % 64
  else x 0 % 8 * 262144 + x 1 % 64 * 4096 + x 2 % 64 * 64 + x 3 % 64
/-- is the sign whole? -/
def whole (n : Nat) (x : Nat → Nat) : Bool := cnt n x == sz (x 0)
/-- the sign's number: U+FFFD where it is not whole. -/
def num (n : Nat) (x : Nat → Nat) : Nat := if whole n x then val x (cnt n x) else 65533

theorem cnt_pos (n : Nat) (x : Nat → Nat) : 1 ≤ cnt n x := by unfold cnt; (repeat' split) <;> omega
theorem cnt_le4 (n : Nat) (x : Nat → Nat) : cnt n x ≤ 4 := by unfold cnt; (repeat' split) <;> omega
theorem cnt_le (n : Nat) (x : Nat → Nat) (h : 0 < n) : cnt n x ≤ n := by unfold cnt; (repeat' split) <;> omega
theorem sz_le (c : Nat) : sz c ≤ 4 := by unfold sz; (repeat' split) <;> omega
theorem lo_le (c : Nat) : lo c ≤ 191 := by unfold lo; (repeat' split) <;> omega
theorem hi_le (c : Nat) : hi c ≤ 191 := by unfold hi; (repeat' split) <;> omega

/-- the loop of 'begun', from k bytes on, with the second byte's bounds. -/
def bg (n : Nat) (x : Nat → Nat) : Nat → Nat → Nat → Nat → Nat
  | 0, k, _, _ => k
  | f + 1, k, l, h => if k < sz (x 0) ∧ k < n ∧ l ≤ x k ∧ x k ≤ h then bg n x f (k + 1) 128 191 else k
theorem bg_cnt (n : Nat) (x : Nat → Nat) : bg n x 4 1 (lo (x 0)) (hi (x 0)) = cnt n x := by
  have hs := sz_le (x 0)
  unfold cnt
  simp only [bg]
  by_cases a : 1 < sz (x 0) ∧ 1 < n ∧ lo (x 0) ≤ x 1 ∧ x 1 ≤ hi (x 0)
  · rw [if_pos a, if_pos a]
    by_cases b : 2 < sz (x 0) ∧ 2 < n ∧ 128 ≤ x 2 ∧ x 2 ≤ 191
    · rw [if_pos b, if_pos b]
      by_cases c : 3 < sz (x 0) ∧ 3 < n ∧ 128 ≤ x 3 ∧ x 3 ≤ 191
      · rw [if_pos c, if_pos c, if_neg (by omega)]
      · rw [if_neg c, if_neg c]
    · rw [if_neg b, if_neg b]
  · rw [if_neg a, if_neg a]

/-- a text's signs from a place on: number, place, bytes. -/
def scan (n : Nat) (x : Nat → Nat) : Nat → Nat → List (Nat × Nat × Nat)
  | 0, _ => []
  | f + 1, k => if k < n then (num (n - k) (fun j => x (k + j)), k, cnt (n - k) (fun j => x (k + j))) :: scan n x f (k + cnt (n - k) (fun j => x (k + j))) else []
/-- one round more of fuel than is wanted changes nothing. -/
theorem scan_fuel (n : Nat) (x : Nat → Nat) : ∀ (f g k : Nat), n - k ≤ f → n - k ≤ g → scan n x f k = scan n x g k := by
  intro f
  induction f with
  | zero =>
    intro g k h1 h2
    cases g with
    | zero => rfl
    | succ g => simp only [scan]; rw [if_neg (by omega)]
  | succ f ih =>
    intro g k h1 h2
    cases g with
    | zero => simp only [scan]; rw [if_neg (by omega)]
    | succ g =>
      simp only [scan]
      by_cases h : k < n
      · rw [if_pos h, if_pos h]
        have := cnt_pos (n - k) (fun j => x (k + j))
        rw [ih g _ (by omega) (by omega)]
      · rw [if_neg h, if_neg h]
/-- a text's signs from a place on. -/
def rest (n : Nat) (x : Nat → Nat) (k : Nat) : List (Nat × Nat × Nat) := scan n x (n - k) k
theorem rest_end (n : Nat) (x : Nat → Nat) (k : Nat) (h : n ≤ k) : rest n x k = [] := by
  unfold rest; rw [show n - k = 0 by omega]; rfl
theorem rest_step (n : Nat) (x : Nat → Nat) (k : Nat) (h : k < n) :
    rest n x k = (num (n - k) (fun j => x (k + j)), k, cnt (n - k) (fun j => x (k + j))) :: rest n x (k + cnt (n - k) (fun j => x (k + j))) := by
  unfold rest
  obtain ⟨f, hf⟩ : ∃ f, n - k = f + 1 := ⟨n - k - 1, by omega⟩
  have hp := cnt_pos (n - k) (fun j => x (k + j))
  rw [scan_fuel n x (n - k) (f + 1) k (by omega) (by omega)]
  conv => lhs; unfold scan
  rw [if_pos h, scan_fuel n x f (n - (k + cnt (n - k) (fun j => x (k + j)))) _ (by omega) (by omega)]
def all (n : Nat) (x : Nat → Nat) : List (Nat × Nat × Nat) := rest n x 0
theorem rest_len (n : Nat) (x : Nat → Nat) : ∀ f k, n - k ≤ f → (rest n x k).length ≤ n - k := by
  intro f
  induction f with
  | zero => intro k h; rw [rest_end _ _ _ (by omega)]; simp
  | succ f ih =>
    intro k h
    by_cases hk : k < n
    · rw [rest_step _ _ _ hk]
      have hp := cnt_pos (n - k) (fun j => x (k + j))
      have := ih (k + cnt (n - k) (fun j => x (k + j))) (by omega)
      simp only [List.length_cons]; omega
    · rw [rest_end _ _ _ (by omega)]; simp

/-- do all of these bytes, so many, begin a right sign? -/
def beg (m : Nat) (x : Nat → Nat) : Bool :=
  decide (0 < m ∧ m ≤ sz (x 0) ∧ (1 < m → lo (x 0) ≤ x 1 ∧ x 1 ≤ hi (x 0)) ∧ (2 < m → 128 ≤ x 2 ∧ x 2 ≤ 191) ∧ (3 < m → 128 ≤ x 3 ∧ x 3 ≤ 191))
theorem lo_ge (c : Nat) (h : 1 < sz c) : 128 ≤ lo c := by
  unfold sz at h; unfold lo
  (repeat' split at h) <;> (repeat' split) <;> omega
theorem beg_long {m : Nat} {x : Nat → Nat} (h : sz (x 0) < m) : beg m x = false := by
  unfold beg; exact decide_eq_false (by omega)
theorem beg_bad {m i : Nat} {x : Nat → Nat} (h1 : 1 ≤ i) (h2 : i < m) (hs : m ≤ sz (x 0)) (h : x i < 128 ∨ 191 < x i) : beg m x = false := by
  have a := lo_ge (x 0) (by omega)
  have b := hi_le (x 0)
  have c := sz_le (x 0)
  unfold beg
  refine decide_eq_false ?_
  rintro ⟨_, _, g1, g2, g3⟩
  obtain rfl | rfl | rfl : i = 1 ∨ i = 2 ∨ i = 3 := by omega
  · have := g1 (by omega); omega
  · have := g2 (by omega); omega
  · have := g3 (by omega); omega
theorem beg_one {m : Nat} {x : Nat → Nat} (h : m = 1) (hs : m ≤ sz (x 0)) : beg m x = true := by
  unfold beg; exact decide_eq_true (by omega)
theorem beg_end {m : Nat} {x : Nat → Nat} (h : 1 < m) (hs : m ≤ sz (x 0)) (hc : ∀ j, 1 ≤ j → j < m → 128 ≤ x j ∧ x j ≤ 191) : beg m x = decide (lo (x 0) ≤ x 1 ∧ x 1 ≤ hi (x 0)) := by
  unfold beg
  have h1 := hc 1
  have h2 := hc 2
  have h3 := hc 3
  rw [decide_eq_decide]
  omega

theorem beg_cnt {m i : Nat} {x : Nat → Nat} (h1 : 1 ≤ i) (hi : i ≤ m) (hb : beg i x = true) (hn : ¬ (i < 4 ∧ i < m ∧ beg (i + 1) x = true)) : cnt m x = i := by
  have hs := sz_le (x 0)
  have hb' := of_decide_eq_true hb
  have hq : ¬ (i < 4 ∧ i < m ∧ (0 < i + 1 ∧ i + 1 ≤ sz (x 0) ∧ (1 < i + 1 → lo (x 0) ≤ x 1 ∧ x 1 ≤ Sg.hi (x 0)) ∧ (2 < i + 1 → 128 ≤ x 2 ∧ x 2 ≤ 191) ∧ (3 < i + 1 → 128 ≤ x 3 ∧ x 3 ≤ 191))) :=
    fun h => hn ⟨h.1, h.2.1, decide_eq_true h.2.2⟩
  clear hb hn
  unfold cnt
  generalize sz (x 0) = s at *
  generalize lo (x 0) = l at *
  generalize Sg.hi (x 0) = u at *
  (repeat' split) <;> omega
theorem beg_none {m : Nat} {x : Nat → Nat} (hm : 0 < m) (hn : ¬ (0 < 4 ∧ 0 < m ∧ beg (0 + 1) x = true)) : sz (x 0) = 0 := by
  by_cases h : sz (x 0) = 0
  · exact h
  · exact absurd ⟨by omega, hm, beg_one rfl (by omega)⟩ hn

theorem beg_cont {i j : Nat} {x : Nat → Nat} (hb : beg i x = true) (h1 : 1 ≤ j) (h2 : j < i) : 128 ≤ x j ∧ x j ≤ 191 := by
  obtain ⟨_, hs, g1, g2, g3⟩ := of_decide_eq_true hb
  have a := lo_ge (x 0) (by omega)
  have b := hi_le (x 0)
  have c := sz_le (x 0)
  obtain rfl | rfl | rfl : j = 1 ∨ j = 2 ∨ j = 3 := by omega
  · have := g1 (by omega); omega
  · exact g2 (by omega)
  · exact g3 (by omega)
/-- a first byte, masked. -/
def fst (i c : Nat) : Nat := if i = 1 then c % 128 else if i = 2 then c % 32 else if i = 3 then c % 16 else c % 8
/-- the number out of the first j bytes. -/
def pv (y : Nat → Nat) (i : Nat) : Nat → Nat
  | 0 => 0
  | 1 => fst i (y 0)
  | j + 2 => pv y i (j + 1) * 64 + (y (j + 1) - 128)
theorem pv_step (y : Nat → Nat) (i j : Nat) (h : 1 ≤ j) : pv y i (j + 1) = pv y i j * 64 + (y j - 128) := by
  obtain ⟨j', rfl⟩ : ∃ j', j = j' + 1 := ⟨j - 1, by omega⟩
  rfl
theorem pv_bd (y : Nat → Nat) (i j : Nat) (hj1 : 1 ≤ j) (hj : j < i) (hi : i ≤ 4) (hc : ∀ j, 1 ≤ j → j < i → 128 ≤ y j ∧ y j ≤ 191) : pv y i j ≤ 32767 := by
  have h1 := hc 1
  have h2 := hc 2
  have hf : pv y i 1 = fst i (y 0) := rfl
  have s2 : pv y i 2 = pv y i 1 * 64 + (y 1 - 128) := pv_step y i 1 (by omega)
  have s3 : pv y i 3 = pv y i 2 * 64 + (y 2 - 128) := pv_step y i 2 (by omega)
  unfold fst at hf
  obtain rfl | rfl | rfl : j = 1 ∨ j = 2 ∨ j = 3 := by omega
  · (repeat' split at hf) <;> omega
  · (repeat' split at hf) <;> omega
  · (repeat' split at hf) <;> omega
theorem pv_val (y : Nat → Nat) (i : Nat) (h1 : 1 ≤ i) (hi : i ≤ 4) (h0 : i = 1 → y 0 < 128) (hc : ∀ j, 1 ≤ j → j < i → 128 ≤ y j ∧ y j ≤ 191) : pv y i i = val y i := by
  have a1 := hc 1
  have a2 := hc 2
  have a3 := hc 3
  have hf : pv y i 1 = fst i (y 0) := rfl
  have s2 : pv y i 2 = pv y i 1 * 64 + (y 1 - 128) := pv_step y i 1 (by omega)
  have s3 : pv y i 3 = pv y i 2 * 64 + (y 2 - 128) := pv_step y i 2 (by omega)
  have s4 : pv y i 4 = pv y i 3 * 64 + (y 3 - 128) := pv_step y i 3 (by omega)
  unfold fst at hf
  unfold val
  obtain rfl | rfl | rfl | rfl : i = 1 ∨ i = 2 ∨ i = 3 ∨ i = 4 := by omega
  · have := h0 rfl
    simp only [reduceIte] at *
    omega
  all_goals
    simp only [reduceIte, Nat.reduceEqDiff] at *
    omega
theorem sz_one {c : Nat} (h : sz c = 1) : c < 128 := by
  unfold sz at h; (repeat' split at h) <;> omega
theorem num_val {m i : Nat} {y : Nat → Nat} (hc : cnt m y = i) (hs : i = sz (y 0)) : num m y = val y i := by
  unfold num whole; rw [hc, hs, beq_self_eq_true]; rfl
end Go.Proofs.Ytlcpfheocenjfaa.Sg
