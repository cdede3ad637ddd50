/-
  The search as a function that can be reckoned; no program in it. (For layer 15: Awake.)
-/
import Derived.Test.YtdepjmneoplicaaDp
namespace Go.Proofs.Ytdepjmneoplicaa
set_option linter.unusedVariables false
set_option linter.unusedSimpArgs false
namespace Ds
/-- the better one of two. -/
def bet (F : List Nat) (r : Nat) : Option (List Nat × Nat) → Option (List Nat × Nat)
  | none => some (F, r)
  | some (E, S) => if decide (r < S) || (decide (r = S) && bef F E) then some (F, r) else some (E, S)
def pick (f : Nat → Nat → Option Nat) (k : Nat) : List (Option (List Nat × Nat)) → Nat → Option (List Nat × Nat) → Option (List Nat × Nat)
  | [], _, cur => cur
  | none :: T, i, cur => pick f k T (i + 1) cur
  | some (F, r) :: T, i, cur => match f i k with
    | none => pick f k T (i + 1) cur
    | some y => pick f k T (i + 1) (bet (F ++ [k]) (r + y) cur)
def tab (f : Nat → Nat → Option Nat) (a : Nat) : Nat → List (Option (List Nat × Nat))
  | 0 => [some ([], 0)]
  | d + 1 => tab f a d ++ [pick f (a + d + 1) (tab f a d) a none]
def Tok (f : Nat → Nat → Option Nat) (a j : Nat) : Option (List Nat × Nat) → Prop
  | none => No f j a
  | some (E, S) => Best f j a E S
/-- of the one so far. -/
def Cur (f : Nat → Nat → Option Nat) (a k i : Nat) : Option (List Nat × Nat) → Prop
  | none => In f a k i [] 0
  | some (E, S) => E ≠ [] ∧ In f a k i E S
theorem pick_ok {f : Nat → Nat → Option Nat} {a k : Nat} : ∀ (T : List (Option (List Nat × Nat))) (i : Nat) (cur : Option (List Nat × Nat)), a ≤ i → (∀ j x, T[j]? = some x → Tok f a (i + j) x) → Cur f a k i cur → Cur f a k (i + T.length) (pick f k T i cur)
  | [], i, cur, _, _, h => h
  | none :: T, i, cur, ha, hT, h => by
    have hn : No f i a := hT 0 none rfl
    have h2 : Cur f a k (i + 1) cur := by
      cases cur with
      | none => exact In.skip h (Or.inr hn)
      | some x => exact ⟨h.1, In.skip h.2 (Or.inr hn)⟩
    have := pick_ok T (i + 1) cur (by omega) (fun j x hj => by rw [show i + 1 + j = i + (j + 1) by omega]; exact hT (j + 1) x (by simpa using hj)) h2
    rw [show i + (none :: T).length = i + 1 + T.length by simp; omega]
    exact this
  | some (F, r) :: T, i, cur, ha, hT, h => by
    have hB : Best f i a F r := hT 0 (some (F, r)) rfl
    have hT2 : ∀ j x, T[j]? = some x → Tok f a (i + 1 + j) x := fun j x hj => by rw [show i + 1 + j = i + (j + 1) by omega]; exact hT (j + 1) x (by simpa using hj)
    rw [show i + (some (F, r) :: T).length = i + 1 + T.length by simp; omega]
    unfold pick
    cases hf : f i k with
    | none =>
      refine pick_ok T (i + 1) cur (by omega) hT2 ?_
      cases cur with
      | none => exact In.skip h (Or.inl hf)
      | some x => exact ⟨h.1, In.skip h.2 (Or.inl hf)⟩
    | some y =>
      refine pick_ok T (i + 1) _ (by omega) hT2 ?_
      cases cur with
      | none => exact ⟨by simp, In.put h ha hB hf (Or.inl rfl)⟩
      | some x =>
        obtain ⟨E, S⟩ := x
        show Cur f a k (i + 1) (if decide (r + y < S) || (decide (r + y = S) && bef (F ++ [k]) E) then some (F ++ [k], r + y) else some (E, S))
        by_cases hc : (decide (r + y < S) || (decide (r + y = S) && bef (F ++ [k]) E)) = true
        · rw [if_pos hc]
          refine ⟨by simp, In.put h.2 ha hB hf ?_⟩
          rw [Bool.or_eq_true, Bool.and_eq_true, decide_eq_true_eq, decide_eq_true_eq] at hc
          exact Or.inr hc
        · rw [if_neg hc]
          refine ⟨h.1, In.keep h.2 hB hf h.1 ?_⟩
          rcases Nat.lt_trichotomy (r + y) S with g | g | g
          · exact absurd (by rw [decide_eq_true g]; rfl) hc
          · refine Or.inr ⟨g, ?_⟩
            cases hb : bef (F ++ [k]) E with
            | false => rfl
            | true => exact absurd (by rw [decide_eq_true g, hb]; simp) hc
          · exact Or.inl g
theorem tab_ok {f : Nat → Nat → Option Nat} {a : Nat} : ∀ d, (tab f a d).length = d + 1 ∧ ∀ j x, (tab f a d)[j]? = some x → Tok f a (a + j) x
  | 0 => ⟨rfl, fun j x hj => by
      cases j with
      | zero =>
        have : some ([], 0) = x := by simpa [tab] using hj
        subst this
        exact best_end f a
      | succ j => simp [tab] at hj⟩
  | d + 1 => by
    obtain ⟨h1, h2⟩ := tab_ok (f := f) (a := a) d
    refine ⟨by simp [tab, h1], fun j x hj => ?_⟩
    by_cases hlt : j < d + 1
    · refine h2 j x ?_
      unfold tab at hj
      rw [List.getElem?_append_left (by rw [h1]; exact hlt)] at hj
      exact hj
    · unfold tab at hj
      rw [List.getElem?_append_right (by rw [h1]; omega), h1] at hj
      have hj2 := (List.getElem?_eq_some_iff.1 hj).1
      simp at hj2
      have hjd : j = d + 1 := by omega
      subst hjd
      simp at hj
      subst hj
      have hp := pick_ok (f := f) (a := a) (k := a + d + 1) (tab f a d) a none (Nat.le_refl _) h2 (In.start f a _ 0)
      rw [h1, show a + (d + 1) = a + d + 1 by omega] at hp
      rw [show a + (d + 1) = a + d + 1 by omega]
      cases hq : pick f (a + d + 1) (tab f a d) a none with
      | none =>
        rw [hq] at hp
        exact (In.done hp (by omega)).no (by omega) rfl
      | some x =>
        obtain ⟨E, S⟩ := x
        rw [hq] at hp
        exact (In.done hp.2 (by omega)).best (Or.inr hp.1)
theorem tab_best {f : Nat → Nat → Option Nat} {a d S : Nat} {E : List Nat} (h : (tab f a d)[d]? = some (some (E, S))) : Best f (a + d) a E S := (tab_ok d).2 d _ h
theorem tab_no {f : Nat → Nat → Option Nat} {a d : Nat} (h : (tab f a d)[d]? = some none) : No f (a + d) a := (tab_ok d).2 d _ h
end Ds
end Go.Proofs.Ytdepjmneoplicaa
