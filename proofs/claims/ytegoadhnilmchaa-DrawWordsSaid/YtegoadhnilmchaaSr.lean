/-
  Lines as long as may be, in plain words; no program in it. (For layers 14, 16.)
-/
import Derived.Test.YtegoadhnilmchaaSq
namespace Go.Proofs.Ytegoadhnilmchaa
set_option linter.unusedVariables false
set_option linter.unusedSimpArgs false
namespace Sp
/-- how wide a line is, by its end. -/
def wde (C : List Ct) (t a b e : Nat) : Nat := wd C t a (b - a) + (if e = 3 then 1 else 0)
/-- may a line end there, and fits it? -/
def ok (C : List Ct) (O : List Nat) (t W a k : Nat) : Bool := O.getD k 0 != 0 && decide (wde C t a k (O.getD k 0) ≤ W)
/-- the greatest boundary, of m behind a, that does. -/
def bst (C : List Ct) (O : List Nat) (t W a : Nat) : Nat → Option Nat
  | 0 => none
  | m + 1 => if ok C O t W a (a + m + 1) then some (a + m + 1) else bst C O t W a m
/-- the greatest one that fits without a hyphen. -/
def fit (C : List Ct) (t W a : Nat) : Nat → Option Nat
  | 0 => none
  | m + 1 => if wd C t a (m + 1) ≤ W then some (a + m + 1) else fit C t W a m
/-- where the line from a boundary on ends, and by what. -/
def nxt (C : List Ct) (O : List Nat) (t W a b : Nat) : Nat × Nat :=
  match bst C O t W a (b - a) with
  | some k => (k, O.getD k 0)
  | none =>
    let c := (fit C t W a (b - a)).getD (a + 1)
    (c, if O.getD c 0 = 1 ∨ O.getD c 0 = 2 then O.getD c 0 else 4)
/-- a line: from, to, cells, end. -/
structure Ln where
  a : Nat
  b : Nat
  w : Nat
  e : Nat
def ln (C : List Ct) (O : List Nat) (t W a b : Nat) : Ln := ⟨a, (nxt C O t W a b).1, wde C t a (nxt C O t W a b).1 (nxt C O t W a b).2, (nxt C O t W a b).2⟩
theorem bst_some {C : List Ct} {O : List Nat} {t W a : Nat} : ∀ {m k : Nat}, bst C O t W a m = some k → a < k ∧ k ≤ a + m ∧ ok C O t W a k = true ∧ ∀ j, k < j → j ≤ a + m → ok C O t W a j = false
  | 0, k, h => by simp [bst] at h
  | m + 1, k, h => by
    by_cases g : ok C O t W a (a + m + 1) = true
    · simp only [bst, g, if_true] at h
      injection h with h
      subst h
      exact ⟨by omega, by omega, g, fun j h1 h2 => by omega⟩
    · simp only [bst, g] at h
      obtain ⟨h1, h2, h3, h4⟩ := bst_some (m := m) (by simpa using h)
      refine ⟨h1, by omega, h3, fun j g1 g2 => ?_⟩
      by_cases e : j = a + m + 1
      · subst e; simpa using g
      · exact h4 j g1 (by omega)
theorem bst_none {C : List Ct} {O : List Nat} {t W a : Nat} : ∀ {m : Nat}, bst C O t W a m = none → ∀ j, a < j → j ≤ a + m → ok C O t W a j = false
  | 0, _, j, h1, h2 => by omega
  | m + 1, h, j, h1, h2 => by
    by_cases g : ok C O t W a (a + m + 1) = true
    · simp [bst, g] at h
    · simp only [bst, g] at h
      by_cases e : j = a + m + 1
      · subst e; simpa using g
      · exact bst_none (m := m) (by simpa using h) j h1 (by omega)
theorem fit_some {C : List Ct} {t W a : Nat} : ∀ {m k : Nat}, fit C t W a m = some k → a < k ∧ k ≤ a + m ∧ wd C t a (k - a) ≤ W ∧ ∀ j, k < j → j ≤ a + m → W < wd C t a (j - a)
  | 0, k, h => by simp [fit] at h
  | m + 1, k, h => by
    by_cases g : wd C t a (m + 1) ≤ W
    · simp only [fit, g, if_true] at h
      injection h with h
      subst h
      have e : a + m + 1 - a = m + 1 := by omega
      exact ⟨by omega, by omega, by rw [e]; exact g, fun j h1 h2 => by omega⟩
    · simp only [fit, g, if_false] at h
      obtain ⟨h1, h2, h3, h4⟩ := fit_some (m := m) h
      refine ⟨h1, by omega, h3, fun j g1 g2 => ?_⟩
      by_cases e : j = a + m + 1
      · subst e
        have e : a + m + 1 - a = m + 1 := by omega
        rw [e]; omega
      · exact h4 j g1 (by omega)
theorem fit_none {C : List Ct} {t W a : Nat} : ∀ {m : Nat}, fit C t W a m = none → ∀ j, a < j → j ≤ a + m → W < wd C t a (j - a)
  | 0, _, j, h1, h2 => by omega
  | m + 1, h, j, h1, h2 => by
    by_cases g : wd C t a (m + 1) ≤ W
    · simp [fit, g] at h
    · simp only [fit, g, if_false] at h
      by_cases e : j = a + m + 1
      · subst e
        have e : a + m + 1 - a = m + 1 := by omega
        rw [e]; omega
      · exact fit_none (m := m) h j h1 (by omega)
/-- a line goes on, and not beyond the part. -/
theorem nxt_in {C : List Ct} {O : List Nat} {t W a b : Nat} (h : a < b) : a < (nxt C O t W a b).1 ∧ (nxt C O t W a b).1 ≤ b := by
  unfold nxt
  cases e : bst C O t W a (b - a) with
  | some k =>
    obtain ⟨h1, h2, -, -⟩ := bst_some e
    exact ⟨h1, by show k ≤ b; omega⟩
  | none =>
    cases e2 : fit C t W a (b - a) with
    | some k =>
      obtain ⟨h1, h2, -, -⟩ := fit_some e2
      exact ⟨h1, by show k ≤ b; omega⟩
    | none => exact ⟨Nat.lt_succ_self a, h⟩
/-- all lines of a part. -/
def lns (C : List Ct) (O : List Nat) (t W b : Nat) : Nat → Nat → List Ln
  | 0, _ => []
  | f + 1, a => if a < b then ln C O t W a b :: lns C O t W b f (nxt C O t W a b).1 else []
def lines (C : List Ct) (O : List Nat) (t W a b : Nat) : List Ln := lns C O t W b (b - a) a
theorem lns_more (C : List Ct) (O : List Nat) (t W b : Nat) : ∀ (f g a : Nat), b - a ≤ f → b - a ≤ g → lns C O t W b f a = lns C O t W b g a
  | 0, 0, _, _, _ => rfl
  | 0, g + 1, a, h, _ => by
    show [] = if a < b then _ else []
    rw [if_neg (by omega)]
  | f + 1, 0, a, _, h => by
    show (if a < b then _ else []) = []
    rw [if_neg (by omega)]
  | f + 1, g + 1, a, h1, h2 => by
    show (if a < b then _ else []) = (if a < b then _ else [])
    by_cases h : a < b
    · have := nxt_in (C := C) (O := O) (t := t) (W := W) h
      rw [if_pos h, if_pos h, lns_more C O t W b f g _ (by omega) (by omega)]
    · rw [if_neg h, if_neg h]
theorem lines_nil {C : List Ct} {O : List Nat} {t W a b : Nat} (h : b ≤ a) : lines C O t W a b = [] := by
  have e : b - a = 0 := by omega
  unfold lines
  rw [e]
  rfl
/-- the first one, and those behind it, as they are alone. -/
theorem lines_cons {C : List Ct} {O : List Nat} {t W a b : Nat} (h : a < b) : lines C O t W a b = ln C O t W a b :: lines C O t W (nxt C O t W a b).1 b := by
  have hn := nxt_in (C := C) (O := O) (t := t) (W := W) h
  obtain ⟨f, hf⟩ : ∃ f, b - a = f + 1 := ⟨b - a - 1, by omega⟩
  show lns C O t W b (b - a) a = _ :: lns C O t W b (b - (nxt C O t W a b).1) (nxt C O t W a b).1
  rw [hf]
  show (if a < b then _ else []) = _
  rw [if_pos h, lns_more C O t W b f (b - (nxt C O t W a b).1) _ (by omega) (by omega)]
/-- how a line ends, by what the document says of it. -/
theorem nxt_says {C : List Ct} {O : List Nat} {t W a b : Nat} (ht : 0 < t) (h : a < b) :
    ((nxt C O t W a b).2 ≠ 4 → (nxt C O t W a b).2 = O.getD (nxt C O t W a b).1 0 ∧ (nxt C O t W a b).2 ≠ 0 ∨ 4 < (nxt C O t W a b).2) ∧
    (∀ k, a < k → k ≤ b → ok C O t W a k = true → (nxt C O t W a b).2 = O.getD (nxt C O t W a b).1 0 ∧ ok C O t W a (nxt C O t W a b).1 = true ∧ k ≤ (nxt C O t W a b).1) := by
  unfold nxt
  cases e : bst C O t W a (b - a) with
  | some k0 =>
    obtain ⟨h1, h2, h3, h4⟩ := bst_some e
    refine ⟨fun _ => Or.inl ⟨rfl, ?_⟩, fun k k1 k2 k3 => ⟨rfl, h3, ?_⟩⟩
    · show O.getD k0 0 ≠ 0
      unfold ok at h3
      rw [Bool.and_eq_true] at h3
      simpa using h3.1
    · show k ≤ k0
      rcases Nat.lt_or_ge k0 k with g | g
      · have := h4 k g (by omega)
        rw [this] at k3; cases k3
      · exact g
  | none =>
    have hn := bst_none e
    refine ⟨fun g => ?_, fun k k1 k2 k3 => ?_⟩
    · dsimp only at g ⊢
      by_cases c : O.getD ((fit C t W a (b - a)).getD (a + 1)) 0 = 1 ∨ O.getD ((fit C t W a (b - a)).getD (a + 1)) 0 = 2
      · rw [if_pos c] at g ⊢
        exact Or.inl ⟨rfl, by omega⟩
      · rw [if_neg c] at g
        exact absurd rfl g
    · have := hn k k1 (by omega)
      rw [this] at k3; cases k3
/-- too wide is only one cluster, that isn't empty. -/
theorem nxt_wide {C : List Ct} {O : List Nat} {t W a b : Nat} (h : a < b) (hw : W < wde C t a (nxt C O t W a b).1 (nxt C O t W a b).2) : (nxt C O t W a b).1 = a + 1 ∧ tr C a 1 = a + 1 := by
  unfold nxt at hw ⊢
  cases e : bst C O t W a (b - a) with
  | some k0 =>
    rw [e] at hw
    obtain ⟨h1, h2, h3, h4⟩ := bst_some e
    unfold ok at h3
    rw [Bool.and_eq_true, decide_eq_true_eq] at h3
    exact absurd hw (Nat.not_lt.2 h3.2)
  | none =>
    rw [e] at hw
    dsimp only at hw ⊢
    have he : (if O.getD ((fit C t W a (b - a)).getD (a + 1)) 0 = 1 ∨ O.getD ((fit C t W a (b - a)).getD (a + 1)) 0 = 2 then O.getD ((fit C t W a (b - a)).getD (a + 1)) 0 else 4) ≠ 3 := by
      split <;> omega
    unfold wde at hw
    rw [if_neg he, Nat.add_zero] at hw
    cases e2 : fit C t W a (b - a) with
    | some k =>
      rw [e2] at hw
      obtain ⟨h1, h2, h3, h4⟩ := fit_some e2
      exact absurd hw (Nat.not_lt.2 h3)
    | none =>
      rw [e2] at hw
      refine ⟨rfl, ?_⟩
      have e3 : (none : Option Nat).getD (a + 1) - a = 1 := by show a + 1 - a = 1; omega
      rw [e3] at hw
      have h2 := tr_ge C a 1
      rcases Nat.lt_or_ge a (tr C a 1) with g | g
      · omega
      · have e4 : tr C a 1 - a = 0 := by omega
        unfold wd at hw
        rw [e4] at hw
        exact absurd hw (Nat.not_lt.2 (Nat.zero_le _))
/-- where the whole part fits it is one line. -/
theorem nxt_whole {C : List Ct} {O : List Nat} {t W a b : Nat} (h : a < b) (ho : ok C O t W a b = true) : nxt C O t W a b = (b, O.getD b 0) := by
  obtain ⟨m, hm⟩ : ∃ m, b - a = m + 1 := ⟨b - a - 1, by omega⟩
  have e : a + m + 1 = b := by omega
  have hb : bst C O t W a (m + 1) = some b := by
    show (if ok C O t W a (a + m + 1) then some (a + m + 1) else bst C O t W a m) = some b
    rw [e, if_pos ho]
  unfold nxt
  rw [hm, hb]
end Sp
end Go.Proofs.Ytegoadhnilmchaa
