/-
  Rows of ends that cost least, and of those the first: from the end backwards, and from the beginning on; no program in it. (For layers 15, 16.)
-/
import Derived.Below
namespace Go.Proofs.Ytdepjmneoplicaa
set_option linter.unusedVariables false
set_option linter.unusedSimpArgs false
namespace Ds
/-- does a row of ends end sooner? -/
def bef : List Nat → List Nat → Bool
  | [], [] => false
  | [], _ :: _ => true
  | _ :: _, [] => false
  | x :: E, y :: F => decide (x < y) || (decide (x = y) && bef E F)
theorem bef_cons (x y : Nat) (E F : List Nat) : bef (x :: E) (y :: F) = true ↔ x < y ∨ (x = y ∧ bef E F = true) := by simp [bef]
theorem bef_irr : ∀ E, bef E E = false
  | [] => rfl
  | x :: E => by simp [bef, bef_irr E]
theorem bef_tri : ∀ E F, E = F ∨ bef E F = true ∨ bef F E = true
  | [], [] => Or.inl rfl
  | [], _ :: _ => Or.inr (Or.inl rfl)
  | _ :: _, [] => Or.inr (Or.inr rfl)
  | x :: E, y :: F => by
    rw [bef_cons, bef_cons]
    rcases Nat.lt_trichotomy x y with h | h | h
    · exact Or.inr (Or.inl (Or.inl h))
    · subst h
      rcases bef_tri E F with g | g | g
      · exact Or.inl (by rw [g])
      · exact Or.inr (Or.inl (Or.inr ⟨rfl, g⟩))
      · exact Or.inr (Or.inr (Or.inr ⟨rfl, g⟩))
    · exact Or.inr (Or.inr (Or.inl h))
theorem bef_asym : ∀ E F, bef E F = true → bef F E = false
  | [], [], h => by simp [bef] at h
  | [], _ :: _, _ => rfl
  | _ :: _, [], h => by simp [bef] at h
  | x :: E, y :: F, h => by
    rw [bef_cons] at h
    cases g : bef (y :: F) (x :: E) with
    | false => rfl
    | true =>
      rw [bef_cons] at g
      rcases h with h | ⟨h1, h2⟩
      · rcases g with g | ⟨g1, g2⟩ <;> omega
      · rcases g with g | ⟨g1, g2⟩
        · omega
        · rw [bef_asym E F h2] at g2; cases g2
theorem bef_trans : ∀ A B C, bef A B = true → bef B C = true → bef A C = true
  | [], [], _, h, _ => by simp [bef] at h
  | [], _ :: _, [], _, h => by simp [bef] at h
  | [], _ :: _, _ :: _, _, _ => rfl
  | _ :: _, [], _, h, _ => by simp [bef] at h
  | _ :: _, _ :: _, [], _, h => by simp [bef] at h
  | x :: A, y :: B, z :: C, h, k => by
    rw [bef_cons] at h k ⊢
    rcases h with h | ⟨rfl, h⟩
    · rcases k with k | ⟨rfl, k⟩
      · exact Or.inl (by omega)
      · exact Or.inl h
    · rcases k with k | ⟨rfl, k⟩
      · exact Or.inl k
      · exact Or.inr ⟨rfl, bef_trans A B C h k⟩
/-- what a row of ends costs; none: a line may not be. -/
def cst (f : Nat → Nat → Option Nat) : Nat → List Nat → Option Nat
  | _, [] => some 0
  | a, k :: E => match f a k, cst f k E with
    | some x, some y => some (x + y)
    | _, _ => none
theorem cst_cons {f : Nat → Nat → Option Nat} {a k s : Nat} {E : List Nat} (h : cst f a (k :: E) = some s) : ∃ x y, f a k = some x ∧ cst f k E = some y ∧ s = x + y := by
  unfold cst at h
  split at h
  · rename_i x y h1 h2
    injection h with h
    exact ⟨x, y, h1, h2, h.symm⟩
  · cases h
theorem cst_mk {f : Nat → Nat → Option Nat} {a k x y : Nat} {E : List Nat} (h1 : f a k = some x) (h2 : cst f k E = some y) : cst f a (k :: E) = some (x + y) := by
  unfold cst
  rw [h1, h2]
/-- ends that rise from a to b. -/
def Row (b : Nat) : Nat → List Nat → Prop
  | a, [] => a = b
  | a, k :: E => a < k ∧ Row b k E
theorem Row.le {b : Nat} : ∀ {a : Nat} {E : List Nat}, Row b a E → a ≤ b
  | a, [], h => Nat.le_of_eq h
  | a, k :: E, h => Nat.le_trans (Nat.le_of_lt h.1) (Row.le h.2)
/-- the row that costs least, the first one of those. -/
structure Best (f : Nat → Nat → Option Nat) (b a : Nat) (E : List Nat) (s : Nat) : Prop where
  row : Row b a E
  cost : cst f a E = some s
  least : ∀ E' s', Row b a E' → cst f a E' = some s' → s ≤ s' ∧ (s' = s → bef E' E = false)
/-- there is none. -/
def No (f : Nat → Nat → Option Nat) (b a : Nat) : Prop := ∀ E, Row b a E → cst f a E = none
theorem Best.one {f : Nat → Nat → Option Nat} {b a s s' : Nat} {E E' : List Nat} (h : Best f b a E s) (h' : Best f b a E' s') : E = E' ∧ s = s' := by
  have h1 := h.least E' s' h'.row h'.cost
  have h2 := h'.least E s h.row h.cost
  have es : s = s' := by omega
  refine ⟨?_, es⟩
  rcases bef_tri E E' with g | g | g
  · exact g
  · rw [h2.2 es] at g; cases g
  · rw [h1.2 es.symm] at g; cases g
theorem Best.no {f : Nat → Nat → Option Nat} {b a s : Nat} {E : List Nat} (h : Best f b a E s) (h' : No f b a) : False := by
  have := h' E h.row
  rw [h.cost] at this
  cases this
theorem best_end (f : Nat → Nat → Option Nat) (b : Nat) : Best f b b [] 0 := by
  refine ⟨rfl, rfl, fun E' s' hr hc => ?_⟩
  cases E' with
  | nil =>
    injection hc with hc
    exact ⟨Nat.zero_le _, fun _ => rfl⟩
  | cons k E => exact absurd hr.2.le (by have := hr.1; omega)
/-- from the end backwards: the first end that has the least cost, and what is best from there on. -/
theorem best_back {f : Nat → Nat → Option Nat} {b a k x s : Nat} {E : List Nat} (hk : a < k) (hf : f a k = some x) (hE : Best f b k E s)
    (hl : ∀ j y, a < j → j ≤ b → f a j = some y → No f b j ∨ ∃ F r, Best f b j F r ∧ x + s ≤ y + r ∧ (y + r = x + s → k ≤ j)) : Best f b a (k :: E) (x + s) := by
  refine ⟨⟨hk, hE.row⟩, cst_mk hf hE.cost, fun E' s' hr hc => ?_⟩
  cases E' with
  | nil => exact absurd (hE.row.le) (by have : a = b := hr; omega)
  | cons j F =>
    obtain ⟨y, r', h1, h2, rfl⟩ := cst_cons hc
    rcases hl j y hr.1 hr.2.le h1 with h | ⟨F0, r, hB, h3, h4⟩
    · rw [h F hr.2] at h2; cases h2
    · have h5 := hB.least F r' hr.2 h2
      refine ⟨by omega, fun e => ?_⟩
      have e1 : r' = r := by omega
      have e2 := h4 (by omega)
      cases g : bef (j :: F) (k :: E) with
      | false => rfl
      | true =>
        rw [bef_cons] at g
        rcases g with g | ⟨rfl, g⟩
        · omega
        · obtain ⟨q1, q2⟩ := hB.one hE
          subst q1
          rw [h5.2 e1] at g
          cases g
theorem no_back {f : Nat → Nat → Option Nat} {b a : Nat} (ha : a < b) (hl : ∀ j y, a < j → j ≤ b → f a j = some y → No f b j) : No f b a := fun E hr => by
  cases E with
  | nil => exact absurd (show a = b from hr) (by omega)
  | cons k F =>
    cases hc : cst f a (k :: F) with
    | none => rfl
    | some s =>
      obtain ⟨y, r, h1, h2, -⟩ := cst_cons hc
      rw [hl k y hr.1 hr.2.le h1 F hr.2] at h2
      cases h2
/-- rows to a boundary, and on. -/
theorem Row.snoc {b i : Nat} (hi : i < b) : ∀ {a : Nat} {E : List Nat}, Row i a E → Row b a (E ++ [b])
  | a, [], h => ⟨by have : a = i := h; omega, rfl⟩
  | a, k :: E, h => ⟨h.1, Row.snoc hi h.2⟩
theorem Row.last {b : Nat} : ∀ {a : Nat} {E : List Nat}, Row b a E → a < b → ∃ i F, E = F ++ [b] ∧ Row i a F ∧ i < b
  | a, [], h, hl => absurd (show a = b from h) (by omega)
  | a, k :: E, h, hl => by
    by_cases e : k = b
    · subst e
      have h2 := h.2
      cases E with
      | nil => exact ⟨a, [], rfl, rfl, hl⟩
      | cons j F => exact absurd h2.2.le (by have := h2.1; omega)
    · have h3 := h.2.le
      obtain ⟨i, F, e2, h4, h5⟩ := Row.last h.2 (by omega)
      exact ⟨i, k :: F, by rw [e2]; rfl, ⟨h.1, h4⟩, h5⟩
theorem cst_snoc {f : Nat → Nat → Option Nat} {b i : Nat} : ∀ {a s x : Nat} {E : List Nat}, Row i a E → cst f a E = some s → f i b = some x → cst f a (E ++ [b]) = some (s + x)
  | a, s, x, [], h, hc, hx => by
    have e : a = i := h
    subst e
    injection hc with hc
    have := cst_mk (E := []) hx (rfl : cst f b [] = some 0)
    rw [← hc, Nat.zero_add]
    exact this
  | a, s, x, k :: E, h, hc, hx => by
    obtain ⟨u, v, h1, h2, rfl⟩ := cst_cons hc
    have := cst_mk h1 (cst_snoc h.2 h2 hx)
    rw [Nat.add_assoc]
    exact this
theorem cst_unsnoc {f : Nat → Nat → Option Nat} {b i : Nat} : ∀ {a s : Nat} {E : List Nat}, Row i a E → cst f a (E ++ [b]) = some s → ∃ u x, cst f a E = some u ∧ f i b = some x ∧ s = u + x
  | a, s, [], h, hc => by
    have e : a = i := h
    subst e
    obtain ⟨x, y, h1, h2, rfl⟩ := cst_cons (E := []) hc
    injection h2 with h2
    exact ⟨0, x, rfl, h1, by omega⟩
  | a, s, k :: E, h, hc => by
    obtain ⟨x, y, h1, h2, rfl⟩ := cst_cons hc
    obtain ⟨u, v, h3, h4, rfl⟩ := cst_unsnoc h.2 h2
    exact ⟨x + u, v, cst_mk h1 h3, h4, by omega⟩
/-- rows to one boundary: the first of two stays the first. -/
theorem bef_snoc {i b : Nat} (hi : i < b) : ∀ {a : Nat} {E F : List Nat}, Row i a E → Row i a F → bef (E ++ [b]) (F ++ [b]) = bef E F
  | a, [], [], _, _ => by simp [bef]
  | a, [], k :: F, h, h' => absurd h'.2.le (by have : a = i := h; have := h'.1; omega)
  | a, k :: E, [], h, h' => absurd h.2.le (by have : a = i := h'; have := h.1; omega)
  | a, k :: E, j :: F, h, h' => by
    show (decide (k < j) || (decide (k = j) && bef (E ++ [b]) (F ++ [b]))) = (decide (k < j) || (decide (k = j) && bef E F))
    by_cases e : k = j
    · subst e
      rw [bef_snoc hi h.2 h'.2]
    · simp [e]
/-- from the beginning on: the last line's beginning, and what is best up to there. -/
theorem best_on {f : Nat → Nat → Option Nat} {b a i x s : Nat} {E : List Nat} (ha : a ≤ i) (hi : i < b) (hf : f i b = some x) (hE : Best f i a E s)
    (hl : ∀ j y, a ≤ j → j < b → f j b = some y → No f j a ∨ ∃ F r, Best f j a F r ∧ s + x ≤ r + y ∧ (r + y = s + x → bef (F ++ [b]) (E ++ [b]) = false)) : Best f b a (E ++ [b]) (s + x) := by
  refine ⟨Row.snoc hi hE.row, cst_snoc hE.row hE.cost hf, fun E' s' hr hc => ?_⟩
  obtain ⟨j, F, rfl, hF, hj⟩ := Row.last hr (by omega)
  obtain ⟨u, y, h1, h2, rfl⟩ := cst_unsnoc hF hc
  rcases hl j y hF.le hj h2 with h | ⟨F0, r, hB, h3, h4⟩
  · rw [h F hF] at h1; cases h1
  · have h5 := hB.least F u hF h1
    refine ⟨by omega, fun e => ?_⟩
    have e1 : u = r := by omega
    have e2 := h4 (by omega)
    have e3 := h5.2 e1
    rw [← bef_snoc hj hF hB.row] at e3
    cases g : bef (F ++ [b]) (E ++ [b]) with
    | false => rfl
    | true =>
      rcases bef_tri (F ++ [b]) (F0 ++ [b]) with q | q | q
      · rw [q, e2] at g; cases g
      · rw [e3] at q; cases q
      · rcases bef_tri (F0 ++ [b]) (E ++ [b]) with p | p | p
        · rw [← p, bef_asym _ _ q] at g; cases g
        · rw [e2] at p; cases p
        · rw [bef_asym _ _ (bef_trans _ _ _ p q)] at g; cases g
theorem no_on {f : Nat → Nat → Option Nat} {b a : Nat} (ha : a < b) (hl : ∀ j y, a ≤ j → j < b → f j b = some y → No f j a) : No f b a := fun E hr => by
  cases hc : cst f a E with
  | none => rfl
  | some s =>
    obtain ⟨j, F, rfl, hF, hj⟩ := Row.last hr ha
    obtain ⟨u, y, h1, h2, -⟩ := cst_unsnoc hF hc
    rw [hl j y hF.le hj h2 F hF] at h1
    cases h1
end Ds
end Go.Proofs.Ytdepjmneoplicaa
