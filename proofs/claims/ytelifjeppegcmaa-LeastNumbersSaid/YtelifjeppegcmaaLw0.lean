/-
  The least automaton as an automaton: it tells the same; renumbered, doubled states tell the same. No program in it.
-/
import Derived.Test.YtelifjeppegcmaaNu0
namespace Go.Proofs.Ytelifjeppegcmaa
set_option linter.unusedVariables false
set_option linter.unusedSimpArgs false
namespace Hm
/-- ways and Outs of lists. -/
def dR (rows : List (List Nat)) (s c : Nat) : Nat := (rows[s]?.getD [])[c]?.getD 0
def oR (outs : List Nat) (s : Nat) : Nat := outs[s]?.getD 0
/-- it is an automaton of k classes. -/
structure Ok (rows : List (List Nat)) (outs : List Nat) (k : Nat) : Prop where
  pos : 0 < rows.length
  olen : outs.length = rows.length
  rlen : ∀ (i : Nat) (row : List Nat), rows[i]? = some row → row.length = k
  lt : ∀ (i : Nat) (row : List Nat), rows[i]? = some row → ∀ x ∈ row, x < rows.length
theorem Ok.d {rows : List (List Nat)} {outs : List Nat} {k : Nat} (h : Ok rows outs k) {s c : Nat} (hs : s < rows.length) (hc : c < k) : ∃ row x, rows[s]? = some row ∧ row[c]? = some x ∧ dR rows s c = x ∧ x < rows.length := by
  have e : rows[s]? = some (rows[s]'hs) := List.getElem?_eq_getElem hs
  have hl := h.rlen s _ e
  have e2 : (rows[s]'hs)[c]? = some ((rows[s]'hs)[c]'(by omega)) := List.getElem?_eq_getElem _
  exact ⟨_, _, e, e2, by unfold dR; rw [e]; show (rows[s]'hs)[c]?.getD 0 = _; rw [e2]; rfl, h.lt s _ e _ (List.getElem_mem _)⟩
theorem Ok.dlt {rows : List (List Nat)} {outs : List Nat} {k : Nat} (h : Ok rows outs k) : ∀ s c, s < rows.length → c < k → dR rows s c < rows.length := fun s c hs hc => by
  obtain ⟨row, x, _, _, e, hx⟩ := h.d hs hc
  rw [e]; exact hx
theorem Ok.o {rows : List (List Nat)} {outs : List Nat} {k : Nat} (h : Ok rows outs k) {s : Nat} (hs : s < rows.length) : outs[s]? = some (oR outs s) := by
  unfold oR
  have e : outs[s]? = some (outs[s]'(by rw [h.olen]; exact hs)) := List.getElem?_eq_getElem _
  rw [e]; rfl
theorem Ok.fold {rows : List (List Nat)} {outs : List Nat} {k : Nat} (h : Ok rows outs k) : ∀ (w : List Nat), (∀ c ∈ w, c < k) → ∀ s, s < rows.length → w.foldl (dR rows) s < rows.length
  | [], _, s, hs => hs
  | c :: w, hw, s, hs => Ok.fold h w (fun x hx => hw x (by simp [hx])) _ (h.dlt s c hs (hw c (by simp)))
/-- what is least is an automaton. -/
theorem Lst.ok {n k : Nat} {d : Nat → Nat → Nat} {o : Nat → Nat} {rows : List (List Nat)} {outs r : List Nat} (h : Lst n k d o rows outs r) : Ok rows outs k := by
  have h0 := (List.getElem?_eq_some_iff.1 h.zero).1
  have hl := h.len
  have key : ∀ (i : Nat) (row : List Nat), rows[i]? = some row → ∃ s, r[i]? = some s ∧ row.length = k ∧ ∀ c j : Nat, row[c]? = some j → ∃ t, r[j]? = some t ∧ Eqv k d o t (d s c) := fun i row hr => by
    have hi := (List.getElem?_eq_some_iff.1 hr).1
    have e : r[i]? = some (r[i]'(by omega)) := List.getElem?_eq_getElem _
    obtain ⟨row', e1, e2, e3⟩ := h.row i _ e
    rw [hr] at e1
    injection e1 with e1
    subst e1
    exact ⟨_, e, e2, e3⟩
  refine ⟨by omega, h.olen, fun i row hr => ?_, fun i row hr x hx => ?_⟩
  · obtain ⟨s, _, e, _⟩ := key i row hr
    exact e
  · obtain ⟨s, _, _, e⟩ := key i row hr
    obtain ⟨c, hc⟩ := List.getElem?_of_mem hx
    obtain ⟨t, ht, _⟩ := e c x hc
    have := (List.getElem?_eq_some_iff.1 ht).1
    omega
theorem Lst.from {n k : Nat} {d : Nat → Nat → Nat} {o : Nat → Nat} {rows : List (List Nat)} {outs r : List Nat} (h : Lst n k d o rows outs r) : ∀ (w : List Nat), (∀ c ∈ w, c < k) → ∀ i s, r[i]? = some s → o (w.foldl d s) = oR outs (w.foldl (dR rows) i)
  | [], _, i, s, hs => by
    have := (h.st i s hs).2
    unfold oR
    show o s = outs[i]?.getD 0
    rw [this]; rfl
  | c :: w, hw, i, s, hs => by
    obtain ⟨row, e1, e2, e3⟩ := h.row i s hs
    have hck := hw c (by simp)
    have e4 : row[c]? = some (row[c]'(by omega)) := List.getElem?_eq_getElem _
    obtain ⟨t, ht, he⟩ := e3 c _ e4
    have hd : dR rows i c = row[c]'(by omega) := by unfold dR; rw [e1]; show row[c]?.getD 0 = _; rw [e4]; rfl
    show o (w.foldl d (d s c)) = oR outs (w.foldl (dR rows) (dR rows i c))
    rw [hd, ← Lst.from h w (fun x hx => hw x (by simp [hx])) _ t ht]
    exact (he w (fun x hx => hw x (by simp [hx]))).symm
/-- what is least tells the same. -/
theorem Lst.tells {n k : Nat} {d : Nat → Nat → Nat} {o : Nat → Nat} {rows : List (List Nat)} {outs r : List Nat} (h : Lst n k d o rows outs r) : Eqx k d o (dR rows) (oR outs) 0 0 := fun w hw => h.from w hw 0 0 h.zero
theorem Lst.few {n k : Nat} {d : Nat → Nat → Nat} {o : Nat → Nat} {rows : List (List Nat)} {outs r : List Nat} (h : Lst n k d o rows outs r) : rows.length ≤ n := by
  have := Cm.len (n := n) (k := k) (d := d) (o := o) (come := r) ⟨h.zero, fun i t ht => (h.st i t ht).1, h.one⟩
  have := h.len
  omega
/-- states renumbered. -/
theorem eqx_num {n k : Nat} {d d' : Nat → Nat → Nat} {o o' p : Nat → Nat} (hd : ∀ s c, s < n → c < k → d s c < n) (h1 : ∀ s c, s < n → c < k → d' (p s) c = p (d s c)) (h2 : ∀ s, s < n → o' (p s) = o s) : ∀ s, s < n → Eqx k d o d' o' s (p s) := fun s hs w hw => by
  induction w generalizing s with
  | nil => exact (h2 s hs).symm
  | cons c w ih =>
    have hc := hw c (by simp)
    show o (w.foldl d (d s c)) = o' (w.foldl d' (d' (p s) c))
    rw [h1 s c hs hc]
    exact ih (d s c) (hd s c hs hc) (fun x hx => hw x (by simp [hx]))
/-- more states, each like one of the others. -/
theorem eqx_map {n k : Nat} {d d' : Nat → Nat → Nat} {o o' p : Nat → Nat} (hd : ∀ s c, s < n → c < k → d s c < n) (h1 : ∀ s c, s < n → c < k → p (d s c) = d' (p s) c) (h2 : ∀ s, s < n → o s = o' (p s)) : ∀ s, s < n → Eqx k d o d' o' s (p s) := fun s hs w hw => by
  induction w generalizing s with
  | nil => exact h2 s hs
  | cons c w ih =>
    have hc := hw c (by simp)
    show o (w.foldl d (d s c)) = o' (w.foldl d' (d' (p s) c))
    rw [← h1 s c hs hc]
    exact ih (d s c) (hd s c hs hc) (fun x hx => hw x (by simp [hx]))
end Hm
end Go.Proofs.Ytelifjeppegcmaa
