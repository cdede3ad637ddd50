/-
  Numbering states as they are come to, and telling states apart, in plain words. No program in it.
-/
import Derived.Test.YtelifjeppegcmaaHm
namespace Go.Proofs.Ytelifjeppegcmaa
set_option linter.unusedVariables false
set_option linter.unusedSimpArgs false
namespace Hm
/-- what was come to. -/
structure Cm (n k : Nat) (d : Nat → Nat → Nat) (o : Nat → Nat) (come : List Nat) : Prop where
  zero : come[0]? = some 0
  lt : ∀ i t : Nat, come[i]? = some t → t < n
  one : ∀ i j s t : Nat, come[i]? = some s → come[j]? = some t → Eqv k d o s t → i = j
theorem Cm.start {n k : Nat} {d : Nat → Nat → Nat} {o : Nat → Nat} (h : 0 < n) : Cm n k d o [0] := by
  refine ⟨rfl, fun i t ht => ?_, fun i j s t hs ht _ => ?_⟩
  · have := (List.getElem?_eq_some_iff.1 ht).1
    obtain rfl : i = 0 := by simpa using this
    injection ht with ht
    omega
  · have h1 := (List.getElem?_eq_some_iff.1 hs).1
    have h2 := (List.getElem?_eq_some_iff.1 ht).1
    simp at h1 h2
    omega
theorem Cm.more {n k : Nat} {d : Nat → Nat → Nat} {o : Nat → Nat} {come : List Nat} {u : Nat} (h : Cm n k d o come) (hu : u < n) (hn : ∀ i t : Nat, come[i]? = some t → ¬ Eqv k d o t u) : Cm n k d o (come ++ [u]) := by
  have h0 : 0 < come.length := (List.getElem?_eq_some_iff.1 h.zero).1
  have key : ∀ i t : Nat, (come ++ [u])[i]? = some t → come[i]? = some t ∨ (i = come.length ∧ t = u) := fun i t ht => by
    by_cases hi : i < come.length
    · rw [List.getElem?_append_left hi] at ht
      exact Or.inl ht
    · rw [List.getElem?_append_right (by omega)] at ht
      have := (List.getElem?_eq_some_iff.1 ht).1
      simp at this
      have e : i = come.length := by omega
      subst e
      rw [Nat.sub_self] at ht
      injection ht with ht
      exact Or.inr ⟨rfl, ht.symm⟩
  refine ⟨by rw [List.getElem?_append_left h0]; exact h.zero, fun i t ht => ?_, fun i j s t hs ht he => ?_⟩
  · rcases key i t ht with h1 | ⟨_, rfl⟩
    · exact h.lt i t h1
    · exact hu
  · rcases key i s hs with h1 | ⟨e1, rfl⟩
    · rcases key j t ht with h2 | ⟨e2, rfl⟩
      · exact h.one i j s t h1 h2 he
      · exact absurd he (hn i s h1)
    · rcases key j t ht with h2 | ⟨e2, rfl⟩
      · exact absurd he.symm (hn j t h2)
      · omega
theorem Cm.nd {n k : Nat} {d : Nat → Nat → Nat} {o : Nat → Nat} {come : List Nat} (h : Cm n k d o come) : come.Nodup := by
  rw [List.nodup_iff_pairwise_ne, List.pairwise_iff_getElem]
  intro i j hi hj hij e
  have hj' := List.getElem?_eq_getElem hj
  have hi' := List.getElem?_eq_getElem hi
  have := h.one i j _ _ hi' hj' (by rw [e]; exact Eqx.refl _)
  omega
theorem nd_len : ∀ (n : Nat) (l : List Nat), l.Nodup → (∀ x ∈ l, x < n) → l.length ≤ n
  | 0, l, _, h => by
    cases l with
    | nil => simp
    | cons a l => have := h a (by simp); omega
  | n + 1, l, hd, h => by
    have h1 : (l.erase n).Nodup := hd.erase n
    have h2 : ∀ x ∈ l.erase n, x < n := fun x hx => by
      have h3 := (List.Nodup.mem_erase_iff hd).1 hx
      have := h x h3.2
      omega
    have := nd_len n _ h1 h2
    by_cases hm : n ∈ l
    · rw [List.length_erase_of_mem hm] at this
      omega
    · rw [List.erase_of_not_mem hm] at this
      omega
theorem Cm.len {n k : Nat} {d : Nat → Nat → Nat} {o : Nat → Nat} {come : List Nat} (h : Cm n k d o come) : come.length ≤ n := nd_len n come h.nd (fun x hx => by
  obtain ⟨i, hi⟩ := List.getElem?_of_mem hx
  exact h.lt i x hi)
/-- a row while it is laid: of state s, the first ways F. -/
structure Nr (n k : Nat) (d : Nat → Nat → Nat) (o : Nat → Nat) (come0 : List Nat) (s : Nat) (come F : List Nat) : Prop where
  cm : Cm n k d o come
  pre : ∀ i t : Nat, come0[i]? = some t → come[i]? = some t
  way : ∀ c j : Nat, F[c]? = some j → ∃ t, come[j]? = some t ∧ Eqv k d o t (d s c)
  ord : ∀ (G : List Nat) (M : Nat), Ord G come.length M → Ord (F ++ G) come0.length M
theorem Nr.start {n k : Nat} {d : Nat → Nat → Nat} {o : Nat → Nat} {come : List Nat} (s : Nat) (h : Cm n k d o come) : Nr n k d o come s come [] := ⟨h, fun _ _ h => h, fun c j h => (by cases h), fun _ _ h => h⟩
theorem snoc_at {F : List Nat} {x c j : Nat} (h : (F ++ [x])[c]? = some j) : F[c]? = some j ∨ (c = F.length ∧ j = x) := by
  by_cases hi : c < F.length
  · rw [List.getElem?_append_left hi] at h
    exact Or.inl h
  · rw [List.getElem?_append_right (by omega)] at h
    have := (List.getElem?_eq_some_iff.1 h).1
    simp at this
    have e : c = F.length := by omega
    subst e
    rw [Nat.sub_self] at h
    injection h with h
    exact Or.inr ⟨rfl, h.symm⟩
theorem Nr.old {n k : Nat} {d : Nat → Nat → Nat} {o : Nat → Nat} {come0 come F : List Nat} {s j t : Nat} (h : Nr n k d o come0 s come F) (hj : come[j]? = some t) (ht : Eqv k d o t (d s F.length)) : Nr n k d o come0 s come (F ++ [j]) := by
  have hjl := (List.getElem?_eq_some_iff.1 hj).1
  refine ⟨h.cm, h.pre, fun c x hx => ?_, fun G M hG => ?_⟩
  · rcases snoc_at hx with h1 | ⟨rfl, rfl⟩
    · exact h.way c x h1
    · exact ⟨t, hj, ht⟩
  · rw [List.append_assoc]
    exact h.ord _ _ (by show Ord (j :: G) _ _; unfold Ord; exact Or.inl ⟨hjl, hG⟩)
theorem Nr.new {n k : Nat} {d : Nat → Nat → Nat} {o : Nat → Nat} {come0 come F : List Nat} {s u : Nat} (h : Nr n k d o come0 s come F) (hu : u < n) (hn : ∀ i t : Nat, come[i]? = some t → ¬ Eqv k d o t u) (ht : Eqv k d o u (d s F.length)) : Nr n k d o come0 s (come ++ [u]) (F ++ [come.length]) := by
  have up : ∀ i t : Nat, come[i]? = some t → (come ++ [u])[i]? = some t := fun i t hi => by
    rw [List.getElem?_append_left (List.getElem?_eq_some_iff.1 hi).1]; exact hi
  refine ⟨h.cm.more hu hn, fun i t hi => up i t (h.pre i t hi), fun c x hx => ?_, fun G M hG => ?_⟩
  · rcases snoc_at hx with h1 | ⟨rfl, rfl⟩
    · obtain ⟨t, h2, h3⟩ := h.way c x h1
      exact ⟨t, up _ _ h2, h3⟩
    · exact ⟨u, by rw [List.getElem?_append_right (Nat.le_refl _), Nat.sub_self]; rfl, ht⟩
  · rw [List.append_assoc]
    refine h.ord _ _ ?_
    show Ord (come.length :: G) _ _
    unfold Ord
    rw [List.length_append] at hG
    exact Or.inr ⟨rfl, hG⟩
/-- so many rows laid. -/
structure Nu (n k : Nat) (d : Nat → Nat → Nat) (o : Nat → Nat) (come : List Nat) (rows : List (List Nat)) (outs : List Nat) : Prop where
  cm : Cm n k d o come
  le : rows.length ≤ come.length
  olen : outs.length = rows.length
  out : ∀ i s : Nat, i < rows.length → come[i]? = some s → outs[i]? = some (o s)
  row : ∀ (i s : Nat) (row : List Nat), come[i]? = some s → rows[i]? = some row → row.length = k ∧ ∀ c j : Nat, row[c]? = some j → ∃ t, come[j]? = some t ∧ Eqv k d o t (d s c)
  ord : ∀ (R : List (List Nat)) (M : Nat), OrdRows R rows.length come.length M → OrdRows (rows ++ R) 0 1 M
theorem Nu.start {n k : Nat} {d : Nat → Nat → Nat} {o : Nat → Nat} (h : 0 < n) : Nu n k d o [0] [] [] := ⟨Cm.start h, by simp, rfl, fun i s hi => (by simp at hi), fun i s row _ hr => (by cases hr), fun R M h => h⟩
theorem Nu.next {n k : Nat} {d : Nat → Nat → Nat} {o : Nat → Nat} {come0 come outs F : List Nat} {rows : List (List Nat)} {s : Nat} (h : Nu n k d o come0 rows outs) (hs : come0[rows.length]? = some s) (hr : Nr n k d o come0 s come F) (hF : F.length = k) : Nu n k d o come (rows ++ [F]) (outs ++ [o s]) := by
  have hlt := (List.getElem?_eq_some_iff.1 hs).1
  have hle : come0.length ≤ come.length := by
    have e : come0[come0.length - 1]? = some (come0[come0.length - 1]'(by omega)) := List.getElem?_eq_getElem _
    have := (List.getElem?_eq_some_iff.1 (hr.pre _ _ e)).1
    omega
  have back : ∀ i t : Nat, i < come0.length → come[i]? = some t → come0[i]? = some t := fun i t hi ht => by
    have e := List.getElem?_eq_getElem hi
    have e2 := hr.pre _ _ e
    rw [ht] at e2
    rw [e, e2]
  refine ⟨hr.cm, by simp; omega, by simp [h.olen], fun i t hi ht => ?_, fun i t row ht hrow => ?_, fun R M hR => ?_⟩
  · rw [List.length_append] at hi
    simp at hi
    by_cases hil : i < rows.length
    · rw [List.getElem?_append_left (by rw [h.olen]; exact hil)]
      exact h.out i t hil (back i t (by omega) ht)
    · have e : i = rows.length := by omega
      subst e
      have e2 := hr.pre _ _ hs
      rw [ht] at e2
      injection e2 with e2
      rw [List.getElem?_append_right (by rw [h.olen]; exact Nat.le_refl _), h.olen, Nat.sub_self, e2]
      rfl
  · by_cases hil : i < rows.length
    · rw [List.getElem?_append_left hil] at hrow
      obtain ⟨h1, h2⟩ := h.row i t row (back i t (by omega) ht) hrow
      refine ⟨h1, fun c j hj => ?_⟩
      obtain ⟨u, h3, h4⟩ := h2 c j hj
      exact ⟨u, hr.pre _ _ h3, h4⟩
    · have hb := (List.getElem?_eq_some_iff.1 hrow).1
      simp at hb
      have e : i = rows.length := by omega
      subst e
      rw [List.getElem?_append_right (Nat.le_refl _), Nat.sub_self] at hrow
      injection hrow with hrow
      subst hrow
      have e2 := hr.pre _ _ hs
      rw [ht] at e2
      injection e2 with e2
      subst e2
      exact ⟨hF, hr.way⟩
  · rw [List.append_assoc]
    refine h.ord _ _ ?_
    show OrdRows (F :: R) _ _ _
    unfold OrdRows
    rw [List.length_append] at hR
    refine ⟨hlt, come.length, ?_, hR⟩
    have := hr.ord [] come.length (by unfold Ord; rfl)
    rwa [List.append_nil] at this
theorem Nu.done {n k : Nat} {d : Nat → Nat → Nat} {o : Nat → Nat} {come outs : List Nat} {rows : List (List Nat)} (h : Nu n k d o come rows outs) (he : come.length ≤ rows.length) : Lst n k d o rows outs come := by
  have hl := h.le
  refine ⟨h.cm.zero, by omega, h.olen, fun i s hs => ⟨h.cm.lt i s hs, h.out i s (by have := (List.getElem?_eq_some_iff.1 hs).1; omega) hs⟩, fun i s hs => ?_, h.cm.one, ?_⟩
  · have hi := (List.getElem?_eq_some_iff.1 hs).1
    have e : rows[i]? = some (rows[i]'(by omega)) := List.getElem?_eq_getElem _
    obtain ⟨h1, h2⟩ := h.row i s _ hs e
    exact ⟨_, e, h1, h2⟩
  · have := h.ord [] rows.length (by unfold OrdRows; omega)
    rwa [List.append_nil] at this
/-! ### states told apart until nothing changes -/
structure Ap (n k : Nat) (d : Nat → Nat → Nat) (o : Nat → Nat) (A : Nat → Nat → Bool) : Prop where
  sound : ∀ i j, i < n → j < n → A i j = true → ¬ Eqv k d o i j
  out : ∀ i j, i < n → j < n → A i j = false → o i = o j
def put (A : Nat → Nat → Bool) (i j : Nat) : Nat → Nat → Bool := fun x y => if x = i ∧ y = j then true else A x y
theorem put_of {A : Nat → Nat → Bool} {i j x y : Nat} (h : put A i j x y = false) : A x y = false := by
  unfold put at h
  split at h
  · cases h
  · exact h
theorem put_up {A : Nat → Nat → Bool} {i j x y : Nat} (h : A x y = true) : put A i j x y = true := by
  unfold put
  split
  · rfl
  · exact h
theorem Ap.put {n k : Nat} {d : Nat → Nat → Nat} {o : Nat → Nat} {A : Nat → Nat → Bool} {i j c : Nat} (h : Ap n k d o A) (hd : ∀ s c, s < n → c < k → d s c < n) (hi : i < n) (hj : j < n) (hc : c < k) (hA : A (d i c) (d j c) = true) : Ap n k d o (put A i j) := by
  refine ⟨fun x y hx hy e he => ?_, fun x y hx hy e => h.out x y hx hy (put_of e)⟩
  unfold Hm.put at e
  split at e
  · rename_i e2
    obtain ⟨rfl, rfl⟩ := e2
    exact h.sound _ _ (hd x c hx hc) (hd y c hy hc) hA (he.step hc)
  · exact h.sound x y hx hy e he
theorem Ap.done {n k : Nat} {d : Nat → Nat → Nat} {o : Nat → Nat} {A : Nat → Nat → Bool} (h : Ap n k d o A) (hd : ∀ s c, s < n → c < k → d s c < n) (hc : ∀ i j c, i < n → j < n → c < k → A i j = false → A (d i c) (d j c) = false) : ∀ i j, i < n → j < n → (A i j = false ↔ Eqv k d o i j) := by
  have key : ∀ (w : List Nat), (∀ c ∈ w, c < k) → ∀ i j, i < n → j < n → A i j = false → o (w.foldl d i) = o (w.foldl d j) := by
    intro w
    induction w with
    | nil => exact fun _ i j hi hj e => h.out i j hi hj e
    | cons c w ih =>
      intro hw i j hi hj e
      have hck := hw c (by simp)
      exact ih (fun x hx => hw x (by simp [hx])) (d i c) (d j c) (hd i c hi hck) (hd j c hj hck) (hc i j c hi hj hck e)
  intro i j hi hj
  constructor
  · exact fun e w hw => key w hw i j hi hj e
  · intro e
    cases hA : A i j with
    | false => rfl
    | true => exact absurd e (h.sound i j hi hj hA)
/-- how many are not told apart. -/
def cntF (n : Nat) (A : Nat → Nat → Bool) : Nat := (List.range n).foldr (fun i m => (List.range n).foldr (fun j m => if A i j then m else m + 1) 0 + m) 0
theorem fold_le {l : List Nat} {f g : Nat → Nat} (h : ∀ x ∈ l, f x ≤ g x) : l.foldr (fun i m => f i + m) 0 ≤ l.foldr (fun i m => g i + m) 0 := by
  induction l with
  | nil => exact Nat.le_refl _
  | cons a l ih =>
    have h1 := h a (by simp)
    have h2 := ih (fun x hx => h x (by simp [hx]))
    simp only [List.foldr_cons]
    omega
theorem fold_lt {l : List Nat} {f g : Nat → Nat} (h : ∀ x ∈ l, f x ≤ g x) {y : Nat} (hy : y ∈ l) (hlt : f y < g y) : l.foldr (fun i m => f i + m) 0 < l.foldr (fun i m => g i + m) 0 := by
  induction l with
  | nil => cases hy
  | cons a l ih =>
    have h1 := h a (by simp)
    have h2 := fold_le (l := l) (fun x hx => h x (by simp [hx]))
    simp only [List.foldr_cons]
    rcases List.mem_cons.1 hy with rfl | hy
    · omega
    · have := ih (fun x hx => h x (by simp [hx])) hy
      omega
theorem cnt_row (n : Nat) (B : Nat → Bool) : (List.range n).foldr (fun j m => if B j then m else m + 1) 0 = (List.range n).foldr (fun j m => (if B j then 0 else 1) + m) 0 := by
  congr 1
  funext j m
  split <;> omega
theorem cntF_le {n : Nat} {A A' : Nat → Nat → Bool} (h : ∀ i j, A i j = true → A' i j = true) : cntF n A' ≤ cntF n A := by
  unfold cntF
  refine fold_le (fun i _ => ?_)
  rw [cnt_row, cnt_row]
  refine fold_le (fun j _ => ?_)
  cases hA : A i j with
  | true => rw [h i j hA]; simp
  | false => simp; split <;> omega
theorem cntF_lt {n i j : Nat} {A : Nat → Nat → Bool} (hi : i < n) (hj : j < n) (hA : A i j = false) : cntF n (put A i j) < cntF n A := by
  unfold cntF
  refine fold_lt (fun x _ => ?_) (List.mem_range.2 hi) ?_
  · rw [cnt_row, cnt_row]
    refine fold_le (fun y _ => ?_)
    cases hx : A x y with
    | true => rw [put_up hx]; simp
    | false => simp; split <;> omega
  · rw [cnt_row, cnt_row]
    refine fold_lt (fun y _ => ?_) (List.mem_range.2 hj) ?_
    · cases hx : A i y with
      | true => rw [put_up hx]; simp
      | false => simp; split <;> omega
    · rw [hA]
      unfold put
      simp
/-- of each state the first one that tells the same. -/
structure Fst (n k : Nat) (d : Nat → Nat → Nat) (o : Nat → Nat) (f : Nat → Nat) : Prop where
  le : ∀ i, i < n → f i ≤ i
  eq : ∀ i, i < n → Eqv k d o i (f i)
  least : ∀ i j, i < n → j < n → Eqv k d o i j → f i ≤ j
theorem Fst.same {n k : Nat} {d : Nat → Nat → Nat} {o f : Nat → Nat} (h : Fst n k d o f) {i j : Nat} (hi : i < n) (hj : j < n) (he : Eqv k d o i j) : f i = f j := by
  have hfi : f i < n := Nat.lt_of_le_of_lt (h.le i hi) hi
  have hfj : f j < n := Nat.lt_of_le_of_lt (h.le j hj) hj
  have h1 := h.least i (f j) hi hfj (he.trans (h.eq j hj))
  have h2 := h.least j (f i) hj hfi (he.symm.trans (h.eq i hi))
  omega
theorem Fst.idem {n k : Nat} {d : Nat → Nat → Nat} {o f : Nat → Nat} (h : Fst n k d o f) {i : Nat} (hi : i < n) : f (f i) = f i := (h.same hi (Nat.lt_of_le_of_lt (h.le i hi) hi) (h.eq i hi)).symm
theorem Fst.apart {n k : Nat} {d : Nat → Nat → Nat} {o f : Nat → Nat} (h : Fst n k d o f) {i j : Nat} (hi : i < n) (hj : j < n) (hne : f i ≠ f j) : ¬ Eqv k d o (f i) (f j) := fun e => by
  have := h.same (Nat.lt_of_le_of_lt (h.le i hi) hi) (Nat.lt_of_le_of_lt (h.le j hj) hj) e
  rw [h.idem hi, h.idem hj] at this
  exact hne this
end Hm
end Go.Proofs.Ytelifjeppegcmaa
