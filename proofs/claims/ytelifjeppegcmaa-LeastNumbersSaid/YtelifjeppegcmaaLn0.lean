/-
  States renumbered: places that change places; the automaton by the new numbers; numbers as they are come to. No walk in it but count's.
-/
import Derived.Test.YtelifjeppegcmaaAl0
namespace Go.Proofs.Ytelifjeppegcmaa
open Go.RowKit Go.Maps
set_option linter.unusedVariables false
set_option linter.unusedSimpArgs false
/-- new numbers: n unlike ones below n, 0 stays 0. -/
structure Pl (n : Nat) (L : List Nat) : Prop where
  len : L.length = n
  lt : ∀ i x : Nat, L[i]? = some x → x < n
  inj : ∀ i j x : Nat, L[i]? = some x → L[j]? = some x → i = j
  zero : L[0]? = some 0
theorem Pl.start {n : Nat} (h : 0 < n) : Pl n (List.range n) := by
  refine ⟨by simp, fun i x hx => ?_, fun i j x hi hj => ?_, by rw [List.getElem?_range h]⟩
  · have hl := (List.getElem?_eq_some_iff.1 hx).1
    rw [List.length_range] at hl
    rw [List.getElem?_range hl] at hx
    injection hx with hx
    omega
  · have hl := (List.getElem?_eq_some_iff.1 hi).1
    have hm := (List.getElem?_eq_some_iff.1 hj).1
    rw [List.length_range] at hl hm
    rw [List.getElem?_range hl] at hi
    rw [List.getElem?_range hm] at hj
    injection hi with hi
    injection hj with hj
    omega
theorem Pl.swap {n i k a b : Nat} {L : List Nat} (h : Pl n L) (hi : L[i]? = some a) (hk : L[k]? = some b) (hi1 : 1 ≤ i) (hk1 : 1 ≤ k) : Pl n ((L.set i b).set k a) := by
  have hil := (List.getElem?_eq_some_iff.1 hi).1
  have hkl := (List.getElem?_eq_some_iff.1 hk).1
  have at' : ∀ j x : Nat, ((L.set i b).set k a)[j]? = some x → (j = k ∧ x = a) ∨ (j ≠ k ∧ j = i ∧ x = b) ∨ (j ≠ k ∧ j ≠ i ∧ L[j]? = some x) := fun j x hx => by
    rw [List.getElem?_set] at hx
    by_cases e1 : k = j
    · rw [if_pos e1, List.length_set, if_pos (by omega)] at hx
      injection hx with hx
      exact Or.inl ⟨e1.symm, hx.symm⟩
    · rw [if_neg e1, List.getElem?_set] at hx
      by_cases e2 : i = j
      · rw [if_pos e2, if_pos (by omega)] at hx
        injection hx with hx
        exact Or.inr (Or.inl ⟨fun e => e1 e.symm, e2.symm, hx.symm⟩)
      · rw [if_neg e2] at hx
        exact Or.inr (Or.inr ⟨fun e => e1 e.symm, fun e => e2 e.symm, hx⟩)
  refine ⟨by simp [h.len], fun j x hx => ?_, fun j l x hj hl => ?_, ?_⟩
  · rcases at' j x hx with ⟨_, rfl⟩ | ⟨_, _, rfl⟩ | ⟨_, _, h1⟩
    · exact h.lt i _ hi
    · exact h.lt k _ hk
    · exact h.lt j x h1
  · rcases at' j x hj with ⟨a1, a2⟩ | ⟨a1, a2, a3⟩ | ⟨a1, a2, a3⟩
    · rcases at' l x hl with ⟨b1, b2⟩ | ⟨b1, b2, b3⟩ | ⟨b1, b2, b3⟩
      · omega
      · subst a2 b3
        have := h.inj i k _ hi hk
        omega
      · subst a2
        have := h.inj i l _ hi b3
        omega
    · rcases at' l x hl with ⟨b1, b2⟩ | ⟨b1, b2, b3⟩ | ⟨b1, b2, b3⟩
      · subst a3 b2
        have := h.inj i k _ hi hk
        omega
      · omega
      · subst a3
        have := h.inj k l _ hk b3
        omega
    · rcases at' l x hl with ⟨b1, b2⟩ | ⟨b1, b2, b3⟩ | ⟨b1, b2, b3⟩
      · subst b2
        have := h.inj j i _ a3 hi
        omega
      · subst b3
        have := h.inj j k _ a3 hk
        omega
      · exact h.inj j l x a3 b3
  · rw [List.getElem?_set, if_neg (by omega), List.getElem?_set, if_neg (by omega)]
    exact h.zero
/-- a state's new number. -/
def pf (L : List Nat) (i : Nat) : Nat := L[i]?.getD 0
theorem Pl.at {n i : Nat} {L : List Nat} (h : Pl n L) (hi : i < n) : L[i]? = some (pf L i) := by
  unfold pf
  rw [List.getElem?_eq_getElem (by rw [h.len]; exact hi)]
  rfl
theorem Pl.pf_lt {n i : Nat} {L : List Nat} (h : Pl n L) (hi : i < n) : pf L i < n := h.lt i _ (h.at hi)
theorem Pl.pf_inj {n i j : Nat} {L : List Nat} (h : Pl n L) (hi : i < n) (hj : j < n) (e : pf L i = pf L j) : i = j := h.inj i j (pf L i) (h.at hi) (by rw [e]; exact h.at hj)
theorem Pl.pf_zero {n : Nat} {L : List Nat} (h : Pl n L) : pf L 0 = 0 := by unfold pf; rw [h.zero]; rfl
/-- each number is one's new number. -/
theorem Pl.onto {n : Nat} {L : List Nat} (h : Pl n L) {s : Nat} (hs : s < n) : ∃ i, i < n ∧ pf L i = s := by
  apply Classical.byContradiction
  intro hno
  have hnd : (L ++ [s]).Nodup := by
    rw [List.nodup_append]
    refine ⟨?_, by simp, fun x hx y hy e => ?_⟩
    · rw [List.nodup_iff_pairwise_ne, List.pairwise_iff_getElem]
      intro i j hi hj hij e
      have := h.inj i j _ (List.getElem?_eq_getElem hi) (by rw [e]; exact List.getElem?_eq_getElem hj)
      omega
    · rw [List.mem_singleton] at hy
      subst hy e
      obtain ⟨i, hi⟩ := List.getElem?_of_mem hx
      have hil := (List.getElem?_eq_some_iff.1 hi).1
      rw [h.len] at hil
      have h2 := h.at hil
      rw [hi] at h2
      injection h2 with h2
      exact hno ⟨i, hil, h2.symm⟩
  have := Hm.nd_len n (L ++ [s]) hnd (fun x hx => by
    rcases List.mem_append.1 hx with h1 | h1
    · obtain ⟨i, hi⟩ := List.getElem?_of_mem h1
      exact h.lt i x hi
    · rw [List.mem_singleton] at h1
      omega)
  rw [List.length_append, h.len] at this
  simp at this; omega
/-- so many states laid by their new numbers. -/
structure Rnm (n : Nat) (L : List Nat) (rows : List (List Nat)) (outs : List Nat) (i : Nat) (bk : Nat → List Nat) (ou : Nat → Nat) : Prop where
  row : ∀ s, s < i → ∀ row, rows[s]? = some row → bk (pf L s) = row.map (pf L)
  out : ∀ s, s < i → ou (pf L s) = Hm.oR outs s
  rest : ∀ s, i ≤ s → s < n → bk (pf L s) = []
def rowsB (n : Nat) (bk : Nat → List Nat) : List (List Nat) := (List.range n).map bk
def outsB (n : Nat) (ou : Nat → Nat) : List Nat := (List.range n).map ou
theorem rowsB_at {n s : Nat} (bk : Nat → List Nat) (h : s < n) : (rowsB n bk)[s]? = some (bk s) := by
  unfold rowsB
  rw [List.getElem?_map, List.getElem?_range h]
  rfl
theorem Rnm.ok {n k : Nat} {L : List Nat} {rows : List (List Nat)} {outs : List Nat} {bk : Nat → List Nat} {ou : Nat → Nat} (h : Rnm n L rows outs n bk ou) (hL : Pl n L) (hk : Hm.Ok rows outs k) (hn : rows.length = n) : Hm.Ok (rowsB n bk) (outsB n ou) k := by
  have hp := hk.pos
  have key : ∀ (i : Nat) (row : List Nat), (rowsB n bk)[i]? = some row → ∃ s row0, s < n ∧ rows[s]? = some row0 ∧ row = row0.map (pf L) := fun i row hr => by
    have hi := (List.getElem?_eq_some_iff.1 hr).1
    have hi2 : i < n := by simpa [rowsB] using hi
    rw [rowsB_at bk hi2] at hr
    injection hr with hr
    obtain ⟨s, hs, e⟩ := hL.onto hi2
    have e0 : rows[s]? = some (rows[s]'(by omega)) := List.getElem?_eq_getElem _
    exact ⟨s, _, hs, e0, by rw [← hr, ← e]; exact h.row s hs _ e0⟩
  refine ⟨by simp [rowsB]; omega, by simp [rowsB, outsB], fun i row hr => ?_, fun i row hr x hx => ?_⟩
  · obtain ⟨s, row0, _, e0, rfl⟩ := key i row hr
    rw [List.length_map]
    exact hk.rlen s row0 e0
  · obtain ⟨s, row0, _, e0, rfl⟩ := key i row hr
    obtain ⟨y, hy, rfl⟩ := List.mem_map.1 hx
    have h1 := hk.lt s row0 e0 y hy
    have h2 := hL.pf_lt (i := y) (by omega)
    simpa [rowsB] using h2
theorem Rnm.eqx {n k : Nat} {L : List Nat} {rows : List (List Nat)} {outs : List Nat} {bk : Nat → List Nat} {ou : Nat → Nat} (h : Rnm n L rows outs n bk ou) (hL : Pl n L) (hk : Hm.Ok rows outs k) (hn : rows.length = n) : Hm.Eqx k (Hm.dR rows) (Hm.oR outs) (Hm.dR (rowsB n bk)) (Hm.oR (outsB n ou)) 0 0 := by
  have hp := hk.pos
  have := Hm.eqx_num (n := n) (k := k) (d := Hm.dR rows) (d' := Hm.dR (rowsB n bk)) (o := Hm.oR outs) (o' := Hm.oR (outsB n ou)) (p := pf L) (fun s c hs hc => by have := hk.dlt s c (by omega) hc; omega) (fun s c hs hc => by
    obtain ⟨row, x, e1, e2, e3, e4⟩ := hk.d (s := s) (c := c) (by omega) hc
    rw [e3]
    unfold Hm.dR
    rw [rowsB_at bk (hL.pf_lt hs)]
    show (bk (pf L s))[c]?.getD 0 = pf L x
    rw [h.row s hs row e1, List.getElem?_map, e2]
    rfl) (fun s hs => by
    unfold Hm.oR outsB
    rw [List.getElem?_map, List.getElem?_range (hL.pf_lt hs)]
    exact h.out s hs) 0 (by omega)
  rwa [hL.pf_zero] at this
end Go.Proofs.Ytelifjeppegcmaa
