/-
  Rows of ends that cost least: what stands behind a line; one line; hyphens that cost more; no program in it. (For layers 15, 16.)
-/
import Derived.Test.YtdepjmneoplicaaDs
namespace Go.Proofs.Ytdepjmneoplicaa
set_option linter.unusedVariables false
set_option linter.unusedSimpArgs false
namespace Ds
/-- what stands behind the first line is best by itself. -/
theorem best_tail {f : Nat → Nat → Option Nat} {b a k s : Nat} {E : List Nat} (h : Best f b a (k :: E) s) : ∃ x r, f a k = some x ∧ s = x + r ∧ Best f b k E r := by
  obtain ⟨x, r, h1, h2, rfl⟩ := cst_cons h.cost
  refine ⟨x, r, h1, rfl, ⟨h.row.2, h2, fun E' s' hr hc => ?_⟩⟩
  have := h.least (k :: E') (x + s') ⟨h.row.1, hr⟩ (cst_mk h1 hc)
  refine ⟨by omega, fun e => ?_⟩
  have h3 := this.2 (by omega)
  cases g : bef E' E with
  | false => rfl
  | true =>
    have : bef (k :: E') (k :: E) = true := (bef_cons _ _ _ _).2 (Or.inr ⟨rfl, g⟩)
    rw [h3] at this
    cases this
theorem best_rest {f : Nat → Nat → Option Nat} {b : Nat} : ∀ (E F : List Nat) {a s : Nat}, Best f b a (E ++ F) s → ∃ r, Best f b ((E.getLast?).getD a) F r
  | [], F, a, s, h => ⟨s, h⟩
  | k :: E, F, a, s, h => by
    obtain ⟨x, r, _, _, hB⟩ := best_tail h
    obtain ⟨r2, h2⟩ := best_rest E F hB
    refine ⟨r2, ?_⟩
    have e : ((k :: E).getLast?).getD a = (E.getLast?).getD k := by
      cases E with
      | nil => rfl
      | cons y E => simp [List.getLast?_cons_cons, List.getLast?_cons]
    rw [e]
    exact h2
/-- each line costs at least c. -/
theorem cst_many {f : Nat → Nat → Option Nat} {c : Nat} (hc : ∀ i j y, f i j = some y → c ≤ y) : ∀ (E : List Nat) {a s : Nat}, cst f a E = some s → c * E.length ≤ s
  | [], a, s, h => by simp
  | k :: E, a, s, h => by
    obtain ⟨x, r, h1, h2, rfl⟩ := cst_cons h
    have := cst_many hc E h2
    have := hc _ _ _ h1
    rw [List.length_cons, Nat.mul_succ]
    omega
/-- a line that costs as little as any is the best one, alone. -/
theorem best_single {f : Nat → Nat → Option Nat} {b a c : Nat} (h0 : 0 < c) (ha : a < b) (hf : f a b = some c) (hc : ∀ i j y, f i j = some y → c ≤ y) : Best f b a [b] c := by
  refine ⟨⟨ha, rfl⟩, ?_, fun E' s' hr hs => ?_⟩
  · have := cst_mk (E := []) hf (rfl : cst f b [] = some 0)
    exact this
  · cases E' with
    | nil => exact absurd (show a = b from hr) (by omega)
    | cons k E =>
      have hm := cst_many hc _ hs
      rw [List.length_cons, Nat.mul_succ] at hm
      refine ⟨by omega, fun e => ?_⟩
      have hl : E.length = 0 := by
        rcases Nat.eq_zero_or_pos E.length with g | g
        · exact g
        · have : c ≤ c * E.length := Nat.le_mul_of_pos_right c g
          omega
      have : E = [] := List.eq_nil_of_length_eq_zero hl
      subst this
      have hk : k = b := hr.2
      subst hk
      exact bef_irr [k]
/-- where the whole is no line, there are more lines than one. -/
theorem best_more {f : Nat → Nat → Option Nat} {b a s : Nat} {E : List Nat} (ha : a < b) (hf : f a b = none) (h : Best f b a E s) : 1 < E.length := by
  cases E with
  | nil => exact absurd (show a = b from h.row) (by omega)
  | cons k E =>
    cases E with
    | nil =>
      have hk : k = b := h.row.2
      subst hk
      obtain ⟨x, r, h1, _⟩ := cst_cons h.cost
      rw [hf] at h1
      cases h1
    | cons j E => simp
/-- how many ends of a row are hyphens. -/
def hys (hy : Nat → Bool) : List Nat → Nat
  | [] => 0
  | k :: E => (if hy k then 1 else 0) + hys hy E
def more (f : Nat → Nat → Option Nat) (hy : Nat → Bool) (h : Nat) (a k : Nat) : Option Nat := (f a k).map (· + (if hy k then h else 0))
theorem cst_more {f : Nat → Nat → Option Nat} {hy : Nat → Bool} {h : Nat} : ∀ (E : List Nat) (a : Nat), cst (more f hy h) a E = (cst f a E).map (· + h * hys hy E)
  | [], a => by simp [cst, hys]
  | k :: E, a => by
    have ih := cst_more (f := f) (hy := hy) (h := h) E k
    cases h1 : f a k with
    | none => simp [cst, more, h1]
    | some x =>
      cases h2 : cst f k E with
      | none =>
        rw [h2] at ih
        simp [cst, more, h1, h2, ih]
      | some y =>
        rw [h2] at ih
        simp only [cst, more, h1, h2, Option.map_some] at ih ⊢
        rw [ih]
        simp only [Option.map_some, hys, Option.some.injEq]
        by_cases g : hy k = true
        · rw [if_pos g, if_pos g, Nat.mul_add, Nat.mul_one]; omega
        · rw [if_neg g, if_neg g, Nat.mul_add, Nat.mul_zero]; omega
/-- the more a hyphen costs the fewer there are, or as many. -/
theorem best_hyph {f : Nat → Nat → Option Nat} {hy : Nat → Bool} {h d b a s t : Nat} {E F : List Nat} (hE : Best (more f hy h) b a E s) (hF : Best (more f hy (h + 1 + d)) b a F t) : hys hy F ≤ hys hy E := by
  have cE := hE.cost
  have cF := hF.cost
  rw [cst_more] at cE cF
  cases hA : cst f a E with
  | none => rw [hA] at cE; cases cE
  | some x =>
    cases hB : cst f a F with
    | none => rw [hB] at cF; cases cF
    | some y =>
      rw [hA] at cE
      rw [hB] at cF
      simp only [Option.map_some, Option.some.injEq] at cE cF
      have l1 := (hE.least F (y + h * hys hy F) hF.row (by rw [cst_more, hB]; rfl)).1
      have l2 := (hF.least E (x + (h + 1 + d) * hys hy E) hE.row (by rw [cst_more, hA]; rfl)).1
      have e1 : (h + 1 + d) * hys hy E = h * hys hy E + (1 + d) * hys hy E := by rw [← Nat.add_mul, Nat.add_assoc]
      have e2 : (h + 1 + d) * hys hy F = h * hys hy F + (1 + d) * hys hy F := by rw [← Nat.add_mul, Nat.add_assoc]
      have l3 : (1 + d) * hys hy F ≤ (1 + d) * hys hy E := by omega
      exact Nat.le_of_mul_le_mul_left l3 (by omega)
theorem no_more {f : Nat → Nat → Option Nat} {hy : Nat → Bool} {h h' b a : Nat} (hN : No (more f hy h) b a) : No (more f hy h') b a := fun E hr => by
  have := hN E hr
  rw [cst_more] at this ⊢
  cases hA : cst f a E with
  | none => rfl
  | some x => rw [hA] at this; cases this
end Ds
end Go.Proofs.Ytdepjmneoplicaa
