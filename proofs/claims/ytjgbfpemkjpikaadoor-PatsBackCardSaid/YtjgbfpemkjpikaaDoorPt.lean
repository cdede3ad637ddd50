/-
  Patterns, as they are written, in plain words: both readings of a word are one; no program in it.
-/
import Derived.Test.YtjgbfpemkjpikaaDoorMath
namespace Go.Proofs.YtjgbfpemkjpikaaDoor
set_option linter.unusedVariables false
set_option linter.unusedSimpArgs false
namespace Pt
def isBl (r : Nat) : Bool := decide (r = 32) || decide (r = 9) || decide (r = 10) || decide (r = 13)
def isDg (r : Nat) : Bool := decide (48 ≤ r) && decide (r ≤ 57)
def isHy (r : Nat) : Bool := decide (r = 45)
/-- a pattern. -/
structure Pat where
  letters : List Nat
  values : List Nat
/-- letters, and the mark ahead of each; nothing, if two marks stand in a row. -/
def raw (mk : Nat → Bool) : List Nat → Nat → Option (List Nat × List Nat)
  | [], m => some ([], [m])
  | c :: cs, m => if mk c = true then (if m ≠ 0 then none else raw mk cs c) else match raw mk cs 0 with | none => none | some (L, M) => some (c :: L, m :: M)
/-- do points stand only at the ends? (the program's words) -/
def ends (L M : List Nat) : Bool :=
  let a := if L.head? = some 46 then (if M.head? = some 0 then some L.tail else none) else some L
  match a with
  | none => false
  | some I =>
    let b := if I.getLast? = some 46 then (if M[L.length]? = some 0 then some I.dropLast else none) else some I
    match b with
    | none => false
    | some J => decide (J ≠ []) && decide (46 ∉ J)
def dval (m : Nat) : Nat := if m ≠ 0 then m - 48 else 0
def hval (m : Nat) : Nat := if m ≠ 0 then 1 else 0
/-- parted, as the program has it. -/
def parted (mk : Nat → Bool) (w : List Nat) : Option (List Nat × List Nat) := match raw mk w 0 with
  | none => none
  | some (L, M) => if L.length = 0 ∨ 24 < L.length ∨ 65533 ∈ L then none else some (L, M)
def patt (w : List Nat) : Option Pat := match parted isDg w with
  | none => none
  | some (L, M) => if ends L M = true then some ⟨L, M.map dval⟩ else none
def told (w : List Nat) : Option Pat := match parted isHy w with
  | none => none
  | some (L, M) => if M.head? ≠ some 0 ∨ M[L.length]? ≠ some 0 ∨ L.any isDg = true ∨ 46 ∈ L then none else some ⟨L, M.map hval⟩
/-- the end of the document's reading. -/
def fin (ls vs : List Nat) (pl : Nat) : Option Pat := if 0 < pl ∧ ls.length ≤ 24 then some ⟨ls, vs⟩ else none
/-- the document's reading of a word. -/
def rl (td : Bool) (n : Nat) : List Nat → Nat → List Nat → List Nat → Nat → Option Pat
  | [], i, ls, vs, pl => fin ls (vs ++ [0]) pl
  | c :: cs, i, ls, vs, pl =>
    if (!td && isDg c) = true then
      match cs with
      | [] => fin ls (vs ++ [c - 48]) pl
      | d :: ds => if d = 45 ∨ isDg d = true ∨ d = 65533 then none else if d = 46 then (if td = true ∨ (i + 1 ≠ 0 ∧ i + 1 ≠ n - 1) then none else rl td n ds (i + 1 + 1) (ls ++ [d]) (vs ++ [c - 48]) pl) else rl td n ds (i + 1 + 1) (ls ++ [d]) (vs ++ [c - 48]) (pl + 1)
    else if (td && isHy c) = true then
      if i = 0 ∨ i = n - 1 then none else
      match cs with
      | [] => fin ls (vs ++ [1]) pl
      | d :: ds => if d = 45 ∨ isDg d = true ∨ d = 65533 then none else if d = 46 then (if td = true ∨ (i + 1 ≠ 0 ∧ i + 1 ≠ n - 1) then none else rl td n ds (i + 1 + 1) (ls ++ [d]) (vs ++ [1]) pl) else rl td n ds (i + 1 + 1) (ls ++ [d]) (vs ++ [1]) (pl + 1)
    else if c = 45 ∨ isDg c = true ∨ c = 65533 then none else if c = 46 then (if td = true ∨ (i ≠ 0 ∧ i ≠ n - 1) then none else rl td n cs (i + 1) (ls ++ [c]) (vs ++ [0]) pl) else rl td n cs (i + 1) (ls ++ [c]) (vs ++ [0]) (pl + 1)
/-- how many of the letters are no points. -/
def pls : List Nat → Nat
  | [] => 0
  | c :: L => (if c = 46 then 0 else 1) + pls L
/-- what the document asks of letters and marks, from place i on. -/
def okL (n : Nat) : Nat → List Nat → List Nat → Prop
  | i, c :: L, m :: M => c ≠ 65533 ∧ (c = 46 → (if m ≠ 0 then i + 1 else i) = 0 ∨ (if m ≠ 0 then i + 1 else i) = n - 1) ∧ okL n ((if m ≠ 0 then i + 1 else i) + 1) L M
  | _, _, _ => True
/-- the document's reading, of letters and marks. -/
def fit (n i : Nat) (ls vs : List Nat) (pl : Nat) (r : Option (List Nat × List Nat)) (x : Option Pat) : Prop :=
  match r with
  | none => x = none
  | some (L, M) => (okL n i L M ∧ 0 < pl + pls L ∧ ls.length + L.length ≤ 24 → x = some ⟨ls ++ L, vs ++ M.map dval⟩) ∧ (¬ (okL n i L M ∧ 0 < pl + pls L ∧ ls.length + L.length ≤ 24) → x = none)
theorem raw_cons {mk : Nat → Bool} {c : Nat} {cs : List Nat} {m : Nat} (h : mk c = false) : raw mk (c :: cs) m = match raw mk cs 0 with | none => none | some (L, M) => some (c :: L, m :: M) := by
  simp [raw, h]
theorem dg_ne {c : Nat} (h : isDg c = true) : c ≠ 0 := by
  unfold isDg at h
  simp at h
  omega
/-- one letter more. -/
theorem fit_letter {n i j : Nat} {ls vs cs : List Nat} {pl c m : Nat} {x : Option Pat} (hc : isDg c = false) (hj : j = if m ≠ 0 then i + 1 else i)
    (ih : ∀ pl', fit n (j + 1) (ls ++ [c]) (vs ++ [dval m]) pl' (raw isDg cs 0) (rl false n cs (j + 1) (ls ++ [c]) (vs ++ [dval m]) pl')) (hb : c ≠ 45)
    (hx : x = if c = 45 ∨ isDg c = true ∨ c = 65533 then none else if c = 46 then (if (false : Bool) = true ∨ (j ≠ 0 ∧ j ≠ n - 1) then none else rl false n cs (j + 1) (ls ++ [c]) (vs ++ [dval m]) pl) else rl false n cs (j + 1) (ls ++ [c]) (vs ++ [dval m]) (pl + 1)) :
    fit n i ls vs pl (match raw isDg cs 0 with | none => none | some (L, M) => some (c :: L, m :: M)) x := by
  subst hx
  by_cases hbad : c = 65533
  · rw [if_pos (Or.inr (Or.inr hbad))]
    cases hr : raw isDg cs 0 with
    | none => simp only [fit]
    | some r =>
      obtain ⟨L, M⟩ := r
      simp only [fit]
      refine ⟨fun h => ?_, fun _ => trivial⟩
      simp only [okL] at h
      exact absurd hbad h.1.1
  · rw [if_neg (by simp [hb, hc, hbad])]
    by_cases h46 : c = 46
    · rw [if_pos h46]
      by_cases hp : j ≠ 0 ∧ j ≠ n - 1
      · rw [if_pos (Or.inr hp)]
        cases hr : raw isDg cs 0 with
        | none => simp only [fit]
        | some r =>
          obtain ⟨L, M⟩ := r
          simp only [fit]
          refine ⟨fun h => ?_, fun _ => trivial⟩
          simp only [okL] at h
          have := h.1.2.1 h46
          rw [← hj] at this
          omega
      · rw [if_neg (by simpa using hp)]
        have ih := ih pl
        cases hr : raw isDg cs 0 with
        | none => rw [hr] at ih; simp only [fit] at ih ⊢; exact ih
        | some r =>
          obtain ⟨L, M⟩ := r
          rw [hr] at ih
          simp only [fit] at ih ⊢
          simp only [okL, ← hj, pls, if_pos h46, List.length_cons, List.map_cons]
          refine ⟨fun h => ?_, fun h => ih.2 (fun h2 => h ⟨⟨hbad, fun _ => by omega, h2.1⟩, by omega, by have := h2.2.2; simp at this; omega⟩)⟩
          rw [ih.1 ⟨h.1.2.2, by omega, by simp; omega⟩]
          simp
    · rw [if_neg h46]
      have ih := ih (pl + 1)
      cases hr : raw isDg cs 0 with
      | none => rw [hr] at ih; simp only [fit] at ih ⊢; exact ih
      | some r =>
        obtain ⟨L, M⟩ := r
        rw [hr] at ih
        simp only [fit] at ih ⊢
        simp only [okL, ← hj, pls, if_neg h46, List.length_cons, List.map_cons]
        refine ⟨fun h => ?_, fun h => ih.2 (fun h2 => h ⟨⟨hbad, fun e => absurd e h46, h2.1⟩, by omega, by have := h2.2.2; simp at this; omega⟩)⟩
        rw [ih.1 ⟨h.1.2.2, by omega, by simp; omega⟩]
        simp
theorem fit_end {n i : Nat} {ls vs : List Nat} {pl m : Nat} : fit n i ls vs pl (some ([], [m])) (fin ls (vs ++ [dval m]) pl) := by
  simp only [fit, okL, pls, List.length_nil, Nat.add_zero, List.append_nil, List.map_cons, List.map_nil, true_and]
  unfold fin
  exact ⟨fun h => by rw [if_pos h], fun h => by rw [if_neg h]⟩
theorem rl_fit (n : Nat) : ∀ (k : Nat) (cs : List Nat), cs.length ≤ k → 45 ∉ cs → ∀ (i : Nat) (ls vs : List Nat) (pl : Nat), fit n i ls vs pl (raw isDg cs 0) (rl false n cs i ls vs pl)
  | 0, cs, hk, h45, i, ls, vs, pl => by
    obtain rfl : cs = [] := List.eq_nil_of_length_eq_zero (by omega)
    have := fit_end (n := n) (i := i) (ls := ls) (vs := vs) (pl := pl) (m := 0)
    simpa [raw, rl, dval] using this
  | k + 1, [], hk, h45, i, ls, vs, pl => by
    have := fit_end (n := n) (i := i) (ls := ls) (vs := vs) (pl := pl) (m := 0)
    simpa [raw, rl, dval] using this
  | k + 1, c :: cs, hk, h45, i, ls, vs, pl => by
    have hc45 : c ≠ 45 := fun e => h45 (by simp [e])
    have hcs45 : 45 ∉ cs := fun e => h45 (by simp [e])
    simp only [List.length_cons] at hk
    by_cases hd : isDg c = true
    · have hc0 := dg_ne hd
      have hv : dval c = c - 48 := by unfold dval; rw [if_pos hc0]
      have e1 : raw isDg (c :: cs) 0 = raw isDg cs c := by simp [raw, hd]
      rw [e1]
      cases cs with
      | nil =>
        have := fit_end (n := n) (i := i) (ls := ls) (vs := vs) (pl := pl) (m := c)
        rw [hv] at this
        simpa [raw, rl, hd] using this
      | cons d ds =>
        have hd45 : d ≠ 45 := fun e => hcs45 (by simp [e])
        by_cases hdd : isDg d = true
        · simp only [raw, hdd, hc0, rl, hd, if_true, ne_eq, not_false_eq_true, Bool.not_false, Bool.and_true, true_or, or_true, fit]
        · have hdd : isDg d = false := by simpa using hdd
          rw [raw_cons hdd]
          refine fit_letter (j := i + 1) (m := c) hdd (by rw [if_pos hc0]) (fun pl' => ?_) hd45 ?_
          · exact rl_fit n k ds (by simp only [List.length_cons] at hk; omega) (fun e => hcs45 (by simp [e])) _ _ _ _
          · rw [hv]
            simp only [rl, hd, Bool.not_false, Bool.and_true, if_true]
    · have hd : isDg c = false := by simpa using hd
      rw [raw_cons hd]
      refine fit_letter (j := i) (m := 0) hd (by simp) (fun pl' => ?_) hc45 ?_
      · exact rl_fit n k cs (by omega) hcs45 _ _ _ _
      · conv => lhs; unfold rl
        simp [hd, dval]
/-- how many marks there are. -/
def nz : List Nat → Nat
  | [] => 0
  | m :: M => (if m ≠ 0 then 1 else 0) + nz M
theorem raw_len {mk : Nat → Bool} (h0 : mk 0 = false) : ∀ (cs : List Nat) (m : Nat) (L M : List Nat), raw mk cs m = some (L, M) → M.length = L.length + 1 ∧ L.length + nz M = cs.length + (if m ≠ 0 then 1 else 0) ∧ ∀ c ∈ L, mk c = false
  | [], m, L, M, h => by
    simp only [raw, Option.some.injEq, Prod.mk.injEq] at h
    obtain ⟨rfl, rfl⟩ := h
    simp [nz]
  | c :: cs, m, L, M, h => by
    simp only [raw] at h
    by_cases hc : mk c = true
    · rw [if_pos hc] at h
      split at h
      · cases h
      · rename_i hm
        obtain ⟨h1, h2, h3⟩ := raw_len h0 cs c L M h
        have hc0 : c ≠ 0 := fun e => by rw [e, h0] at hc; cases hc
        rw [if_pos hc0] at h2
        rw [if_neg hm]
        exact ⟨h1, by simp only [List.length_cons]; omega, h3⟩
    · rw [if_neg hc] at h
      cases hr : raw mk cs 0 with
      | none => rw [hr] at h; cases h
      | some r =>
        obtain ⟨L', M'⟩ := r
        rw [hr] at h
        simp only [Option.some.injEq, Prod.mk.injEq] at h
        obtain ⟨rfl, rfl⟩ := h
        obtain ⟨h1, h2, h3⟩ := raw_len h0 cs 0 L' M' hr
        simp only [nz, List.length_cons, ne_eq, not_true_eq_false, if_false] at h2 ⊢
        refine ⟨by omega, by omega, fun x hx => ?_⟩
        rcases List.mem_cons.1 hx with rfl | hx
        · simpa using hc
        · exact h3 x hx
theorem nz_one {M : List Nat} (h : nz M = 0) (hl : M.length = 1) : M = [0] := by
  match M, hl with
  | [m], _ =>
    simp only [nz] at h
    by_cases hm : m = 0
    · rw [hm]
    · rw [if_pos hm] at h; omega
/-- of the letters behind the first one. -/
def tailOk : List Nat → List Nat → Prop
  | c :: L, m :: M => c ≠ 65533 ∧ (c = 46 → L = [] ∧ M = [0]) ∧ tailOk L M
  | _, _ => True
theorem okL_tail (n : Nat) : ∀ (L M : List Nat) (i : Nat), M.length = L.length + 1 → 0 < i → i + L.length + nz M = n → (okL n i L M ↔ tailOk L M)
  | [], M, i, _, _, _ => by simp [okL, tailOk]
  | c :: L, [], i, h, _, _ => by simp at h
  | c :: L, m :: M, i, h, hi, hn => by
    simp only [List.length_cons] at h hn
    simp only [nz] at hn
    obtain ⟨j, hj⟩ : ∃ j, j = if m ≠ 0 then i + 1 else i := ⟨_, rfl⟩
    have hjn : j + 1 + L.length + nz M = n := by rw [hj]; split at hn <;> split <;> omega
    have hj0 : 0 < j := by rw [hj]; split <;> omega
    simp only [okL, tailOk, ← hj]
    rw [okL_tail n L M (j + 1) (by omega) (by omega) (by omega)]
    constructor
    · rintro ⟨h1, h2, h3⟩
      refine ⟨h1, fun e => ?_, h3⟩
      have := h2 e
      have hL : L = [] := List.eq_nil_of_length_eq_zero (by omega)
      subst hL
      exact ⟨rfl, nz_one (by simp at hjn; omega) (by simpa using h)⟩
    · rintro ⟨h1, h2, h3⟩
      refine ⟨h1, fun e => Or.inr ?_, h3⟩
      obtain ⟨rfl, rfl⟩ := h2 e
      simp [nz] at hjn
      omega
theorem tail_ok : ∀ (L M : List Nat), M.length = L.length + 1 → (tailOk L M ↔ 65533 ∉ L ∧ 46 ∉ L.dropLast ∧ (L.getLast? = some 46 → M[L.length]? = some 0))
  | [], M, h => by simp [tailOk]
  | [c], M, h => by
    match M, h with
    | [m, m'], _ =>
      simp [tailOk]
      intro _
      exact ⟨fun h e => h e.symm, fun h e => h e.symm⟩
  | c :: d :: L, M, h => by
    match M, h with
    | m :: M', h =>
      have ih := tail_ok (d :: L) M' (by simpa using h)
      simp only [tailOk]
      rw [ih]
      simp only [List.mem_cons, List.dropLast_cons_cons, List.getLast?_cons_cons, List.length_cons, List.getElem?_cons_succ]
      constructor
      · rintro ⟨h1, h2, h3, h4, h5⟩
        refine ⟨?_, ?_, h5⟩
        · rintro (e | e)
          · exact h1 e.symm
          · exact h3 e
        · rintro (e | e)
          · have := h2 e.symm; simp at this
          · exact h4 e
      · rintro ⟨h1, h2, h3⟩
        exact ⟨fun e => h1 (Or.inl e.symm), fun e => absurd (Or.inl e.symm) h2, fun e => h1 (Or.inr e), fun e => h2 (Or.inr e), h3⟩
theorem pls_pos : ∀ L : List Nat, 0 < pls L ↔ ∃ c ∈ L, c ≠ 46
  | [] => by simp [pls]
  | c :: L => by
    simp only [pls]
    by_cases h : c = 46
    · rw [if_pos h, Nat.zero_add, pls_pos L]
      simp [h]
    · rw [if_neg h]
      simp [h]
      omega
theorem last_split {L : List Nat} {x : Nat} (h : L.getLast? = some x) : L = L.dropLast ++ [x] := by
  have hne : L ≠ [] := fun e => by rw [e] at h; cases h
  rw [List.getLast?_eq_some_getLast hne] at h
  injection h with h
  rw [← h]
  exact (List.dropLast_concat_getLast hne).symm
/-- the document's words and the program's, of points. -/
theorem ok_ends (n : Nat) (c m : Nat) (L M : List Nat) (hM : M.length = L.length + 1) (hn : (if m ≠ 0 then 1 else 0) + 1 + L.length + nz M = n) :
    (okL n 0 (c :: L) (m :: M) ∧ 0 < pls (c :: L)) ↔ (65533 ∉ c :: L ∧ ends (c :: L) (m :: M) = true) := by
  obtain ⟨j, hj⟩ : ∃ j, j = if m ≠ 0 then 0 + 1 else 0 := ⟨_, rfl⟩
  have hjm : j = 0 ↔ m = 0 := by rw [hj]; split <;> simp_all
  have hjn : j + 1 + L.length + nz M = n := by rw [hj]; split at hn <;> split <;> simp_all
  simp only [okL, ← hj]
  rw [okL_tail n L M (j + 1) hM (by omega) (by omega), tail_ok L M hM]
  unfold ends
  simp only [List.head?_cons, Option.some.injEq, List.tail_cons, List.length_cons, List.getElem?_cons_succ]
  by_cases h46 : c = 46
  · subst h46
    simp only [if_true, pls, Nat.zero_add]
    by_cases hm : m = 0
    · subst hm
      simp only [if_true]
      by_cases hl : L.getLast? = some 46
      · have hs := last_split hl
        rw [if_pos hl]
        by_cases hz : M[L.length]? = some 0
        · rw [if_pos hz]
          simp only [Bool.and_eq_true, decide_eq_true_eq]
          rw [pls_pos]
          constructor
          · rintro ⟨⟨_, _, h1, h2, h3⟩, x, hx, hx2⟩
            refine ⟨by simp [h1], fun e => ?_, h2⟩
            rw [hs, e] at hx
            simp at hx
            exact hx2 hx
          · rintro ⟨h1, h2, h3⟩
            refine ⟨⟨by decide, fun _ => Or.inl (hjm.2 rfl), fun e => h1 (by simp [e]), h3, fun _ => hz⟩, ?_⟩
            obtain ⟨x, hx⟩ := List.exists_mem_of_ne_nil _ h2
            exact ⟨x, by rw [hs]; simp [hx], fun e => h3 (by rw [← e]; exact hx)⟩
        · rw [if_neg hz]
          simp only [Bool.false_eq_true, and_false, iff_false]
          rintro ⟨⟨_, _, _, _, h3⟩, _⟩
          exact hz (h3 hl)
      · rw [if_neg hl]
        simp only [Bool.and_eq_true, decide_eq_true_eq]
        rw [pls_pos]
        constructor
        · rintro ⟨⟨_, _, h1, h2, h3⟩, x, hx, hx2⟩
          refine ⟨by simp [h1], fun e => by rw [e] at hx; simp at hx, fun e => ?_⟩
          have hne : L ≠ [] := fun e' => by rw [e'] at hx; simp at hx
          have hs := last_split (List.getLast?_eq_some_getLast hne)
          rw [hs] at e
          rcases List.mem_append.1 e with e | e
          · exact h2 e
          · simp only [List.mem_singleton] at e
            exact hl (by rw [List.getLast?_eq_some_getLast hne, ← e])
        · rintro ⟨h1, h2, h3⟩
          refine ⟨⟨by decide, fun _ => Or.inl (hjm.2 rfl), fun e => h1 (by simp [e]), fun e => h3 (List.dropLast_subset _ e), fun e => absurd e hl⟩, ?_⟩
          obtain ⟨x, hx⟩ := List.exists_mem_of_ne_nil _ h2
          exact ⟨x, hx, fun e => h3 (by rw [← e]; exact hx)⟩
    · rw [if_neg hm]
      simp only [Bool.false_eq_true, and_false, iff_false]
      rintro ⟨⟨_, h0, _, _, _⟩, hp⟩
      have := h0 trivial
      have hj1 : j ≠ 0 := fun e => hm (hjm.1 e)
      have hL : L = [] := List.eq_nil_of_length_eq_zero (by omega)
      subst hL
      simp [pls] at hp
  · rw [if_neg h46]
    have hp : 0 < pls (c :: L) := by simp only [pls, if_neg h46]; omega
    have ht : (¬ c = 65533 ∧ (c = 46 → j = 0 ∨ j = n - 1) ∧ 65533 ∉ L ∧ 46 ∉ L.dropLast ∧ (L.getLast? = some 46 → M[L.length]? = some 0)) ↔ (65533 ∉ c :: L ∧ 46 ∉ L.dropLast ∧ (L.getLast? = some 46 → M[L.length]? = some 0)) := by
      constructor
      · rintro ⟨h1, _, h2, h3⟩
        exact ⟨by simp only [List.mem_cons, not_or]; exact ⟨fun e => h1 e.symm, h2⟩, h3⟩
      · rintro ⟨h1, h3⟩
        simp only [List.mem_cons, not_or] at h1
        exact ⟨fun e => h1.1 e.symm, fun e => absurd e h46, h1.2, h3⟩
    rw [show (c ≠ 65533) = (¬ c = 65533) from rfl, ht]
    cases L with
    | nil => simp [h46, hp]; intro _; exact fun e => h46 e.symm
    | cons d L =>
      simp only [List.getLast?_cons_cons]
      by_cases hl : (d :: L).getLast? = some 46
      · have hs := last_split hl
        rw [if_pos hl]
        by_cases hz : M[(d :: L).length]? = some 0
        · rw [if_pos hz]
          simp only [Bool.and_eq_true, decide_eq_true_eq, List.dropLast_cons_cons]
          constructor
          · rintro ⟨⟨h1, h2, _⟩, _⟩
            exact ⟨h1, by simp, by simp only [List.mem_cons, not_or]; exact ⟨fun e => h46 e.symm, h2⟩⟩
          · rintro ⟨h1, _, h2⟩
            simp only [List.mem_cons, not_or] at h2
            exact ⟨⟨h1, h2.2, fun _ => hz⟩, hp⟩
        · rw [if_neg hz]
          simp only [Bool.false_eq_true, and_false, iff_false]
          rintro ⟨⟨_, _, h3⟩, _⟩
          exact hz (h3 hl)
      · rw [if_neg hl]
        simp only [Bool.and_eq_true, decide_eq_true_eq]
        have hs := last_split (List.getLast?_eq_some_getLast (show d :: L ≠ [] by simp))
        constructor
        · rintro ⟨⟨h1, h2, _⟩, _⟩
          refine ⟨h1, by simp, fun e => ?_⟩
          rcases List.mem_cons.1 e with e | e
          · exact h46 e.symm
          · rw [hs] at e
            rcases List.mem_append.1 e with e | e
            · exact h2 e
            · simp only [List.mem_singleton] at e
              exact hl (by rw [List.getLast?_eq_some_getLast (show d :: L ≠ [] by simp), ← e])
        · rintro ⟨h1, _, h2⟩
          exact ⟨⟨h1, fun e => h2 (List.mem_cons_of_mem _ (List.dropLast_subset _ e)), fun e => absurd e hl⟩, hp⟩
/-- both readings of a pattern are one. -/
theorem rl_patt (w : List Nat) (h45 : 45 ∉ w) : rl false w.length w 0 [] [] 0 = patt w := by
  have hf := rl_fit w.length w.length w (Nat.le_refl _) h45 0 [] [] 0
  unfold patt parted
  cases hr : raw isDg w 0 with
  | none => rw [hr] at hf; exact hf
  | some r =>
    obtain ⟨L, M⟩ := r
    rw [hr] at hf
    simp only [fit, List.nil_append, List.length_nil, Nat.zero_add] at hf
    obtain ⟨h1, h2, h3⟩ := raw_len (by decide) w 0 L M hr
    simp only [ne_eq, not_true_eq_false, if_false, Nat.add_zero] at h2
    cases L with
    | nil =>
      simp only [List.length_nil, true_or, if_true]
      exact hf.2 (fun h => by have := h.2.1; simp [pls] at this)
    | cons c L =>
      match M, h1 with
      | m :: M, h1 =>
        dsimp only
        simp only [List.length_cons] at h1 h2
        simp only [nz] at h2
        have hoe := ok_ends w.length c m L M (by omega) (by omega)
        by_cases hA : (c :: L).length = 0 ∨ 24 < (c :: L).length ∨ 65533 ∈ c :: L
        · rw [if_pos hA]
          refine hf.2 (fun h => ?_)
          rcases hA with hA | hA | hA
          · simp at hA
          · have := h.2.2; omega
          · exact (hoe.1 ⟨h.1, h.2.1⟩).1 hA
        · rw [if_neg hA]
          dsimp only
          simp only [not_or] at hA
          by_cases hE : ends (c :: L) (m :: M) = true
          · rw [if_pos hE]
            obtain ⟨k1, k2⟩ := hoe.2 ⟨hA.2.2, hE⟩
            exact hf.1 ⟨k1, k2, by omega⟩
          · rw [if_neg hE]
            exact hf.2 (fun h => hE (hoe.1 ⟨h.1, h.2.1⟩).2)
/-- what the document asks of a told word's letters and hyphens, from place i on. -/
def okT (n : Nat) : Nat → List Nat → List Nat → Prop
  | i, c :: L, m :: M => (m ≠ 0 → i ≠ 0 ∧ i ≠ n - 1) ∧ (c ≠ 65533 ∧ isDg c = false ∧ c ≠ 46) ∧ okT n ((if m ≠ 0 then i + 1 else i) + 1) L M
  | i, [], [m] => m ≠ 0 → i ≠ 0 ∧ i ≠ n - 1
  | _, _, _ => True
def fitT (n i : Nat) (ls vs : List Nat) (pl : Nat) (r : Option (List Nat × List Nat)) (x : Option Pat) : Prop :=
  match r with
  | none => x = none
  | some (L, M) => (okT n i L M ∧ 0 < pl + L.length ∧ ls.length + L.length ≤ 24 → x = some ⟨ls ++ L, vs ++ M.map hval⟩) ∧ (¬ (okT n i L M ∧ 0 < pl + L.length ∧ ls.length + L.length ≤ 24) → x = none)
/-- one letter more of a told word. -/
theorem fitT_letter {n i j : Nat} {ls vs cs : List Nat} {pl c m : Nat} {x : Option Pat} (hc : isHy c = false) (hj : j = if m ≠ 0 then i + 1 else i) (hm : m ≠ 0 → i ≠ 0 ∧ i ≠ n - 1)
    (ih : ∀ pl', fitT n (j + 1) (ls ++ [c]) (vs ++ [hval m]) pl' (raw isHy cs 0) (rl true n cs (j + 1) (ls ++ [c]) (vs ++ [hval m]) pl'))
    (hx : x = if c = 45 ∨ isDg c = true ∨ c = 65533 then none else if c = 46 then (if (true : Bool) = true ∨ (j ≠ 0 ∧ j ≠ n - 1) then none else rl true n cs (j + 1) (ls ++ [c]) (vs ++ [hval m]) pl) else rl true n cs (j + 1) (ls ++ [c]) (vs ++ [hval m]) (pl + 1)) :
    fitT n i ls vs pl (match raw isHy cs 0 with | none => none | some (L, M) => some (c :: L, m :: M)) x := by
  subst hx
  have hb : c ≠ 45 := fun e => by subst e; simp [isHy] at hc
  by_cases hbad : c ≠ 65533 ∧ isDg c = false ∧ c ≠ 46
  · rw [if_neg (by simp [hb, hbad]), if_neg hbad.2.2]
    have ih := ih (pl + 1)
    cases hr : raw isHy cs 0 with
    | none => rw [hr] at ih; simp only [fitT] at ih ⊢; exact ih
    | some r =>
      obtain ⟨L, M⟩ := r
      rw [hr] at ih
      simp only [fitT] at ih ⊢
      simp only [okT, ← hj, List.length_cons, List.map_cons]
      refine ⟨fun h => ?_, fun h => ih.2 (fun h2 => h ⟨⟨hm, hbad, h2.1⟩, by omega, by have := h2.2.2; simp at this; omega⟩)⟩
      rw [ih.1 ⟨h.1.2.2, by omega, by simp; omega⟩]
      simp
  · have hx : (if c = 45 ∨ isDg c = true ∨ c = 65533 then none else if c = 46 then (if (true : Bool) = true ∨ (j ≠ 0 ∧ j ≠ n - 1) then none else rl true n cs (j + 1) (ls ++ [c]) (vs ++ [hval m]) pl) else rl true n cs (j + 1) (ls ++ [c]) (vs ++ [hval m]) (pl + 1)) = none := by
      by_cases h1 : c = 45 ∨ isDg c = true ∨ c = 65533
      · rw [if_pos h1]
      · rw [if_neg h1]
        simp only [not_or] at h1
        have h46 : c = 46 := Classical.byContradiction fun hn => hbad ⟨h1.2.2, by simpa using h1.2.1, hn⟩
        rw [if_pos h46, if_pos (Or.inl rfl)]
    rw [hx]
    cases hr : raw isHy cs 0 with
    | none => simp only [fitT]
    | some r =>
      obtain ⟨L, M⟩ := r
      simp only [fitT]
      refine ⟨fun h => ?_, fun _ => trivial⟩
      simp only [okT] at h
      exact absurd h.1.2.1 hbad
theorem hval0 : hval 0 = 0 := rfl
theorem hval45 : hval 45 = 1 := rfl
theorem raw45 (cs : List Nat) : raw isHy (45 :: cs) 0 = raw isHy cs 45 := by simp [raw, isHy]
theorem rlT_fit (n : Nat) : ∀ (k : Nat) (cs : List Nat), cs.length ≤ k → ∀ (i : Nat) (ls vs : List Nat) (pl : Nat), i + cs.length = n → fitT n i ls vs pl (raw isHy cs 0) (rl true n cs i ls vs pl)
  | 0, cs, hk, i, ls, vs, pl, hn => by
    obtain rfl : cs = [] := List.eq_nil_of_length_eq_zero (by omega)
    simp only [raw, fitT, rl, okT, hval, List.length_nil, Nat.add_zero, List.append_nil, List.map_cons, List.map_nil, ne_eq, not_true_eq_false, false_implies, true_and, if_false]
    unfold fin
    exact ⟨fun h => by rw [if_pos h], fun h => by rw [if_neg h]⟩
  | k + 1, [], hk, i, ls, vs, pl, hn => by
    simp only [raw, fitT, rl, okT, hval, List.length_nil, Nat.add_zero, List.append_nil, List.map_cons, List.map_nil, ne_eq, not_true_eq_false, false_implies, true_and, if_false]
    unfold fin
    exact ⟨fun h => by rw [if_pos h], fun h => by rw [if_neg h]⟩
  | k + 1, c :: cs, hk, i, ls, vs, pl, hn => by
    simp only [List.length_cons] at hk hn
    by_cases hd : c = 45
    · subst hd
      rw [raw45]
      by_cases hend : i = 0 ∨ i = n - 1
      · have hx : rl true n (45 :: cs) i ls vs pl = none := by
          cases cs <;> simp [rl, isHy, hend]
        rw [hx]
        cases hr : raw isHy cs 45 with
        | none => simp only [fitT]
        | some r =>
          obtain ⟨L, M⟩ := r
          simp only [fitT]
          refine ⟨fun h => ?_, fun _ => trivial⟩
          exfalso
          have h1 := h.1
          obtain ⟨g1, _, _⟩ := raw_len (by decide) cs 45 L M hr
          match L, M, g1 with
          | [], [m], _ =>
            have hm : m = 45 := by
              cases cs with
              | nil => simp [raw] at hr; exact hr.symm
              | cons d ds =>
                simp only [raw] at hr
                split at hr
                · simp at hr
                · cases hq : raw isHy ds 0 with
                  | none => rw [hq] at hr; cases hr
                  | some r => obtain ⟨a, b⟩ := r; rw [hq] at hr; simp at hr
            subst hm
            simp only [okT] at h1
            have := h1 (by decide)
            omega
          | x :: L, m :: M, _ =>
            have hm : m = 45 := by
              cases cs with
              | nil => simp [raw] at hr
              | cons d ds =>
                simp only [raw] at hr
                split at hr
                · simp at hr
                · cases hq : raw isHy ds 0 with
                  | none => rw [hq] at hr; cases hr
                  | some r => obtain ⟨a, b⟩ := r; rw [hq] at hr; simp at hr; exact hr.2.1.symm
            subst hm
            simp only [okT] at h1
            have := h1.1 (by decide)
            omega
      · cases cs with
        | nil => exfalso; simp at hn; omega
        | cons d ds =>
          by_cases hdd : d = 45
          · subst hdd
            have e1 : raw isHy (45 :: ds) 45 = none := by simp [raw, isHy]
            have e2 : rl true n (45 :: 45 :: ds) i ls vs pl = none := by simp [rl, isHy, hend]
            rw [e1, e2]
            simp only [fitT]
          · have hdh : isHy d = false := by simp [isHy, hdd]
            rw [raw_cons hdh]
            refine fitT_letter (j := i + 1) (m := 45) hdh (by simp) (fun _ => by omega) (fun pl' => ?_) ?_
            · simp only [List.length_cons] at hk hn
              exact rlT_fit n k ds (by omega) _ _ _ _ (by omega)
            · conv => lhs; unfold rl
              simp [isHy, hend, hval]
    · have hdh : isHy c = false := by simp [isHy, hd]
      rw [raw_cons hdh]
      refine fitT_letter (j := i) (m := 0) hdh (by simp) (fun h => absurd rfl h) (fun pl' => ?_) ?_
      · exact rlT_fit n k cs (by omega) _ _ _ _ (by omega)
      · conv => lhs; unfold rl
        simp [isHy, hd, hval]
/-- the letters of a told word. -/
def okC (c : Nat) : Prop := c ≠ 65533 ∧ isDg c = false ∧ c ≠ 46
theorem okT_tail (n : Nat) : ∀ (L M : List Nat) (i : Nat), M.length = L.length + 1 → 0 < i → i + L.length + nz M = n → (okT n i L M ↔ (∀ c ∈ L, okC c) ∧ M[L.length]? = some 0)
  | [], M, i, h, hi, hn => by
    match M, h with
    | [m], _ =>
      simp only [okT, nz, List.length_nil, Nat.add_zero] at hn ⊢
      by_cases hm : m = 0
      · simp [hm]
      · rw [if_pos hm] at hn
        simp [hm]
        omega
  | c :: L, [], i, h, _, _ => by simp at h
  | c :: L, m :: M, i, h, hi, hn => by
    simp only [List.length_cons] at h hn
    simp only [nz] at hn
    obtain ⟨j, hj⟩ : ∃ j, j = if m ≠ 0 then i + 1 else i := ⟨_, rfl⟩
    have hjn : j + 1 + L.length + nz M = n := by rw [hj]; split at hn <;> split <;> omega
    have hj0 : 0 < j := by rw [hj]; split <;> omega
    simp only [okT, ← hj]
    rw [okT_tail n L M (j + 1) (by omega) (by omega) (by omega)]
    simp only [List.length_cons, List.getElem?_cons_succ, List.mem_cons]
    constructor
    · rintro ⟨_, h2, h3, h4⟩
      refine ⟨fun x hx => ?_, h4⟩
      rcases hx with rfl | hx
      · exact h2
      · exact h3 x hx
    · rintro ⟨h1, h2⟩
      refine ⟨fun hm => ?_, h1 c (Or.inl rfl), fun x hx => h1 x (Or.inr hx), h2⟩
      have : j = i + 1 := by rw [hj, if_pos hm]
      omega
/-- both readings of a told word are one. -/
theorem rl_told (w : List Nat) : rl true w.length w 0 [] [] 0 = told w := by
  have hf := rlT_fit w.length w.length w (Nat.le_refl _) 0 [] [] 0 (by simp)
  unfold told parted
  cases hr : raw isHy w 0 with
  | none => rw [hr] at hf; exact hf
  | some r =>
    obtain ⟨L, M⟩ := r
    rw [hr] at hf
    simp only [fitT, List.nil_append, List.length_nil, Nat.zero_add] at hf
    obtain ⟨h1, h2, h3⟩ := raw_len (by decide) w 0 L M hr
    simp only [ne_eq, not_true_eq_false, if_false, Nat.add_zero] at h2
    cases L with
    | nil =>
      simp only [List.length_nil, true_or, if_true]
      exact hf.2 (fun h => by have := h.2.1; simp at this)
    | cons c L =>
      match M, h1 with
      | m :: M, h1 =>
        dsimp only
        simp only [List.length_cons] at h1 h2
        simp only [nz] at h2
        have hoe : okT w.length 0 (c :: L) (m :: M) ↔ m = 0 ∧ (∀ x ∈ c :: L, okC x) ∧ M[L.length]? = some 0 := by
          simp only [okT]
          by_cases hm : m = 0
          · subst hm
            simp only [ne_eq, not_true_eq_false, if_false, false_implies, true_and]
            rw [okT_tail w.length L M (0 + 1) (by omega) (by omega) (by simp at h2; omega)]
            constructor
            · rintro ⟨a, b, d⟩
              refine ⟨fun x hx => ?_, d⟩
              rcases List.mem_cons.1 hx with rfl | hx
              · exact a
              · exact b x hx
            · rintro ⟨a, d⟩
              exact ⟨a c (by simp), fun x hx => a x (by simp [hx]), d⟩
          · constructor
            · rintro ⟨a, _⟩
              exact absurd rfl (a hm).1
            · rintro ⟨a, _⟩
              exact absurd a hm
        have hB : (m :: M)[(c :: L).length]? = M[L.length]? := by simp
        by_cases hA : (c :: L).length = 0 ∨ 24 < (c :: L).length ∨ 65533 ∈ c :: L
        · rw [if_pos hA]
          refine hf.2 (fun h => ?_)
          rcases hA with hA | hA | hA
          · simp at hA
          · have := h.2.2; omega
          · exact ((hoe.1 h.1).2.1 _ hA).1 rfl
        · rw [if_neg hA]
          dsimp only
          simp only [not_or] at hA
          rw [hB]
          by_cases hE : (m :: M).head? ≠ some 0 ∨ M[L.length]? ≠ some 0 ∨ (c :: L).any isDg = true ∨ 46 ∈ c :: L
          · rw [if_pos hE]
            refine hf.2 (fun h => ?_)
            obtain ⟨k1, k2, k3⟩ := hoe.1 h.1
            rcases hE with hE | hE | hE | hE
            · simp [k1] at hE
            · exact hE k3
            · obtain ⟨x, hx, hx2⟩ := List.any_eq_true.1 hE
              have := (k2 x hx).2.1
              rw [hx2] at this
              cases this
            · exact (k2 46 hE).2.2 rfl
          · rw [if_neg hE]
            simp only [not_or, ne_eq, Classical.not_not] at hE
            refine hf.1 ⟨hoe.2 ⟨by simpa using hE.1, fun x hx => ⟨fun e => hA.2.2 (e ▸ hx), ?_, fun e => hE.2.2.2 (e ▸ hx)⟩, hE.2.1⟩, by simp, by omega⟩
            cases hd : isDg x with
            | false => rfl
            | true => exact absurd (List.any_eq_true.2 ⟨x, hx, hd⟩) hE.2.2.1
/-- the document's reading of a word is the program's. -/
theorem rl_both (w : List Nat) : rl (decide (45 ∈ w)) w.length w 0 [] [] 0 = if 45 ∈ w then told w else patt w := by
  by_cases h : 45 ∈ w
  · rw [if_pos h, decide_eq_true h]
    exact rl_told w
  · rw [if_neg h, decide_eq_false h]
    exact rl_patt w h
end Pt
end Go.Proofs.YtjgbfpemkjpikaaDoor
