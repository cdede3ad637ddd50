/-
  The document's search from the beginning on, step by step, in plain words; no program in it. (For layers 15, 16.)
-/
import Derived.Test.YtdepjmneoplicaaDs
namespace Go.Proofs.Ytdepjmneoplicaa
set_option linter.unusedVariables false
set_option linter.unusedSimpArgs false
namespace Ds
/-- what is known of a boundary: the best row up to it, or that there is none. -/
def St (f : Nat → Nat → Option Nat) (a j : Nat) (E : List Nat) (S : Nat) : Prop := (j = a ∧ E = [] ∧ S = 0) ∨ (a < j ∧ ((E = [] ∧ No f j a) ∨ (E ≠ [] ∧ Best f j a E S)))
theorem St.best {f : Nat → Nat → Option Nat} {a j S : Nat} {E : List Nat} (h : St f a j E S) (he : j = a ∨ E ≠ []) : Best f j a E S := by
  rcases h with ⟨rfl, rfl, rfl⟩ | ⟨h1, ⟨h2, _⟩ | ⟨_, h2⟩⟩
  · exact best_end f j
  · rcases he with e | e
    · omega
    · exact absurd h2 e
  · exact h2
theorem St.no {f : Nat → Nat → Option Nat} {a j S : Nat} {E : List Nat} (h : St f a j E S) (ha : a < j) (he : E = []) : No f j a := by
  rcases h with ⟨rfl, _⟩ | ⟨_, ⟨_, h2⟩ | ⟨h2, _⟩⟩
  · omega
  · exact h2
  · exact absurd he h2
/-- of boundary k, when lines from a up to i were tried. -/
def In (f : Nat → Nat → Option Nat) (a k i : Nat) (E : List Nat) (S : Nat) : Prop :=
  (E = [] ∧ ∀ i' y, a ≤ i' → i' < i → f i' k = some y → No f i' a) ∨
  (∃ i0 E0 s0 x0, a ≤ i0 ∧ i0 < i ∧ Best f i0 a E0 s0 ∧ f i0 k = some x0 ∧ E = E0 ++ [k] ∧ S = s0 + x0 ∧ ∀ i' y, a ≤ i' → i' < i → f i' k = some y → No f i' a ∨ ∃ F r, Best f i' a F r ∧ S ≤ r + y ∧ (r + y = S → bef (F ++ [k]) E = false))
theorem In.start (f : Nat → Nat → Option Nat) (a k S : Nat) : In f a k a [] S := Or.inl ⟨rfl, fun i' y h1 h2 => by omega⟩
theorem In.skip {f : Nat → Nat → Option Nat} {a k i S : Nat} {E : List Nat} (h : In f a k i E S) (hn : f i k = none ∨ No f i a) : In f a k (i + 1) E S := by
  rcases h with ⟨h1, h2⟩ | ⟨i0, E0, s0, x0, h1, h2, h3, h4, h5, h6, h7⟩
  · refine Or.inl ⟨h1, fun i' y g1 g2 g3 => ?_⟩
    by_cases e : i' = i
    · subst e
      rcases hn with hn | hn
      · rw [hn] at g3; cases g3
      · exact hn
    · exact h2 i' y g1 (by omega) g3
  · refine Or.inr ⟨i0, E0, s0, x0, h1, by omega, h3, h4, h5, h6, fun i' y g1 g2 g3 => ?_⟩
    by_cases e : i' = i
    · subst e
      rcases hn with hn | hn
      · rw [hn] at g3; cases g3
      · exact Or.inl hn
    · exact h7 i' y g1 (by omega) g3
theorem In.put {f : Nat → Nat → Option Nat} {a k i S r y : Nat} {E F : List Nat} (h : In f a k i E S) (ha : a ≤ i) (hB : Best f i a F r) (hf : f i k = some y) (hc : E = [] ∨ r + y < S ∨ (r + y = S ∧ bef (F ++ [k]) E = true)) : In f a k (i + 1) (F ++ [k]) (r + y) := by
  refine Or.inr ⟨i, F, r, y, ha, by omega, hB, hf, rfl, rfl, fun i' y' g1 g2 g3 => ?_⟩
  by_cases e : i' = i
  · subst e
    rw [hf] at g3
    injection g3 with g3
    subst g3
    exact Or.inr ⟨F, r, hB, Nat.le_refl _, fun _ => bef_irr _⟩
  · rcases h with ⟨h1, h2⟩ | ⟨i0, E0, s0, x0, h1, h2, h3, h4, h5, h6, h7⟩
    · exact Or.inl (h2 i' y' g1 (by omega) g3)
    · rcases h7 i' y' g1 (by omega) g3 with q | ⟨F', r', q1, q2, q3⟩
      · exact Or.inl q
      · refine Or.inr ⟨F', r', q1, ?_, fun e2 => ?_⟩
        · rcases hc with hc | hc | hc
          · rw [h5] at hc; simp at hc
          · omega
          · omega
        · rcases hc with hc | hc | hc
          · rw [h5] at hc; simp at hc
          · omega
          · have q4 := q3 (by omega)
            cases g : bef (F' ++ [k]) (F ++ [k]) with
            | false => rfl
            | true => rw [bef_trans _ _ _ g hc.2] at q4; cases q4
theorem In.keep {f : Nat → Nat → Option Nat} {a k i S r y : Nat} {E F : List Nat} (h : In f a k i E S) (hB : Best f i a F r) (hf : f i k = some y) (hE : E ≠ []) (hc : S < r + y ∨ (r + y = S ∧ bef (F ++ [k]) E = false)) : In f a k (i + 1) E S := by
  rcases h with ⟨h1, h2⟩ | ⟨i0, E0, s0, x0, h1, h2, h3, h4, h5, h6, h7⟩
  · exact absurd h1 hE
  · refine Or.inr ⟨i0, E0, s0, x0, h1, by omega, h3, h4, h5, h6, fun i' y' g1 g2 g3 => ?_⟩
    by_cases e : i' = i
    · subst e
      rw [hf] at g3
      injection g3 with g3
      subst g3
      refine Or.inr ⟨F, r, hB, by omega, fun e2 => ?_⟩
      rcases hc with hc | hc
      · omega
      · exact hc.2
    · exact h7 i' y' g1 (by omega) g3
theorem In.done {f : Nat → Nat → Option Nat} {a k S : Nat} {E : List Nat} (h : In f a k k E S) (ha : a < k) : St f a k E S := by
  refine Or.inr ⟨ha, ?_⟩
  rcases h with ⟨h1, h2⟩ | ⟨i0, E0, s0, x0, h1, h2, h3, h4, h5, h6, h7⟩
  · exact Or.inl ⟨h1, no_on ha (fun j y g1 g2 g3 => h2 j y g1 g2 g3)⟩
  · refine Or.inr ⟨by rw [h5]; simp, ?_⟩
    rw [h5, h6]
    exact best_on h1 h2 h4 h3 (fun j y g1 g2 g3 => by have := h7 j y g1 g2 g3; rw [h5, h6] at this; exact this)
/-- a row of ends rises. -/
theorem Row.at {b : Nat} : ∀ {a : Nat} {E : List Nat} {i k : Nat}, Row b a E → E[i]? = some k → a < k ∧ k ≤ b ∧ i ≤ k
  | a, [], i, k, h, hk => by simp at hk
  | a, x :: E, 0, k, h, hk => by
    simp at hk
    subst hk
    exact ⟨h.1, h.2.le, Nat.zero_le _⟩
  | a, x :: E, i + 1, k, h, hk => by
    have g := Row.at h.2 (show E[i]? = some k by simpa using hk)
    have h1 := h.1
    exact ⟨by omega, g.2.1, by
      have := Row.len h.2 (show E[i]? = some k by simpa using hk)
      omega⟩
where
  Row.len {b : Nat} : ∀ {a : Nat} {E : List Nat} {i k : Nat}, Row b a E → E[i]? = some k → a + i < k
  | a, [], i, k, h, hk => by simp at hk
  | a, x :: E, 0, k, h, hk => by
    simp at hk
    subst hk
    exact h.1
  | a, x :: E, i + 1, k, h, hk => by
    have := Row.len h.2 (show E[i]? = some k by simpa using hk)
    have := h.1
    omega
theorem Row.length {b : Nat} : ∀ {a : Nat} {E : List Nat}, Row b a E → a + E.length ≤ b
  | a, [], h => Nat.le_of_eq h
  | a, x :: E, h => by
    have := Row.length h.2
    have := h.1
    rw [List.length_cons]
    omega
/-- costs are small. -/
theorem cst_le {f : Nat → Nat → Option Nat} {M : Nat} (hM : ∀ i j y, f i j = some y → y ≤ M) : ∀ (E : List Nat) {a s : Nat}, cst f a E = some s → s ≤ E.length * M
  | [], a, s, h => by injection h with h; omega
  | k :: E, a, s, h => by
    obtain ⟨x, y, h1, h2, rfl⟩ := cst_cons h
    have := hM _ _ _ h1
    have := cst_le hM E h2
    rw [List.length_cons, Nat.add_mul, Nat.one_mul]
    omega
end Ds
end Go.Proofs.Ytdepjmneoplicaa
