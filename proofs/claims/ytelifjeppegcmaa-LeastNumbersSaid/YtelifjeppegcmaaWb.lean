/-
  The ways back, by one class: a row of rows of one's own.
-/
import Derived.Test.YtelifjeppegcmaaOg
namespace Go.Proofs.Ytelifjeppegcmaa
open Go.RowKit Go.Maps
set_option linter.unusedVariables false
set_option linter.unusedSimpArgs false
theorem own_own {w : World} {base e size n q : Nat} {v : Value} {xs : List Value} (h : w.ownsRow base e size v n xs) (hq : v.ownBlock = some q) : base ≤ q ∧ ∃ cur, w.heap[q]? = some (.cells cur e (0, 0)) := by
  obtain ⟨hl, ⟨hv, h0⟩ | ⟨g, cap, cur, hv, h1, h2, _⟩⟩ := h
  · rw [hv] at hq; cases hq
  · rw [hv] at hq
    injection hq with hq
    subst hq
    exact ⟨h1, cur, h2⟩
theorem own_stay {S : Nat → Prop} {w w' : World} {base e size n : Nat} {v : Value} {xs : List Value} (h : w.ownsRow base e size v n xs) (ho : Only S w w') (hS : ∀ q, v.ownBlock = some q → ¬ S q) : w'.ownsRow base e size v n xs := by
  obtain ⟨hl, h | ⟨g, cap, cur, hv, h1, h2, h3⟩⟩ := h
  · exact ⟨hl, Or.inl h⟩
  · exact ⟨hl, Or.inr ⟨g, cap, cur, hv, h1, (ho.block g (Array.getElem?_eq_some_iff.1 h2).1 (hS g (by rw [hv]; rfl))).trans h2, h3⟩⟩
/-- a row of n values. -/
def rowOf (n : Nat) (vs : Nat → Value) : Array Value := ((List.range n).map vs).toArray
theorem rowOf_at {n i : Nat} (vs : Nat → Value) (h : i < n) : (rowOf n vs)[i]? = some (vs i) := by
  unfold rowOf
  rw [List.getElem?_toArray, List.getElem?_map, List.getElem?_range h]
  rfl
theorem rowOf_size (n : Nat) (vs : Nat → Value) : (rowOf n vs).size = n := by simp [rowOf]
theorem rowOf_set {n i : Nat} (vs : Nat → Value) (v : Value) : (rowOf n vs).setIfInBounds i v = rowOf n (fun j => if j = i then v else vs j) := by
  apply Array.ext_getElem?
  intro j
  rw [Array.getElem?_setIfInBounds, rowOf_size]
  by_cases hj : j < n
  · rw [rowOf_at _ hj, rowOf_at _ hj]
    by_cases e : i = j
    · subst e; simp [hj]
    · rw [if_neg e, if_neg (fun h => e h.symm)]
  · have e1 : (rowOf n vs)[j]? = none := Array.getElem?_eq_none (by rw [rowOf_size]; omega)
    have e2 : (rowOf n (fun j => if j = i then v else vs j))[j]? = none := Array.getElem?_eq_none (by rw [rowOf_size]; omega)
    rw [e1, e2]
    split
    · rename_i e; subst e; rw [if_neg hj]
    · rfl
/-- by one class: of each state, which ones lead to it. -/
structure Bw (W : World) (base n bc : Nat) (bk : Nat → List Nat) (vs : Nat → Value) : Prop where
  blk : W.heap[bc]? = some (.cells (rowOf n vs) 23 (0, 0))
  own : ∀ t, t < n → W.ownsRow base 3 1 (vs t) (bk t).length (nums (bk t)).toList
  sep : ∀ i j, i < n → j < n → i ≠ j → ∀ g, (vs i).ownBlock = some g → (vs j).ownBlock ≠ some g
theorem Bw.keep {S : Nat → Prop} {W W' : World} {base n bc : Nat} {bk : Nat → List Nat} {vs : Nat → Value} (h : Bw W base n bc bk vs) (ho : Only S W W') (h1 : ∀ b, S b → b ≠ bc ∧ b < base) : Bw W' base n bc bk vs :=
  ⟨(ho.block bc (Array.getElem?_eq_some_iff.1 h.blk).1 (fun hs => (h1 _ hs).1 rfl)).trans h.blk, fun t ht => own_stay (h.own t ht) ho (fun q hq hs => by have := (own_own (h.own t ht) hq).1; have := (h1 _ hs).2; omega), h.sep⟩
theorem Bw.start {W : World} {base n bc : Nat} (h : W.heap[bc]? = some (.cells (rowOf n (fun _ => .slice none 0 0)) 23 (0, 0))) : Bw W base n bc (fun _ => []) (fun _ => .slice none 0 0) :=
  ⟨h, fun t ht => ⟨rfl, Or.inl ⟨rfl, rfl⟩⟩, fun i j _ _ _ g hg => by cases hg⟩
theorem Bw.step {Y w5 : World} {base n bc tt s g cap H : Nat} {bk : Nat → List Nat} {vs : Nat → Value} (h : Bw Y base n bc bk vs) (ht : tt < n) (hO : Only (fun b => (vs tt).ownBlock = some b) Y w5) (h5 : w5.ownsRow base 3 1 (.slice (some ⟨g, 0, none⟩) ((bk tt).length + 1) cap) ((bk tt).length + 1) ((nums (bk tt)).toList ++ [.int .i64 (s : Int)])) (hat : (vs tt).ownBlock = some g ∨ g = H) (hH : Y.heap.size ≤ H) :
    Bw (w5.setCell ⟨bc, tt, none⟩ (.slice (some ⟨g, 0, none⟩) ((bk tt).length + 1) cap)) base n bc (fun i => if i = tt then bk tt ++ [s] else bk i) (fun i => if i = tt then .slice (some ⟨g, 0, none⟩) ((bk tt).length + 1) cap else vs i) ∧ Only (fun b => (vs tt).ownBlock = some b ∨ b = bc) Y (w5.setCell ⟨bc, tt, none⟩ (.slice (some ⟨g, 0, none⟩) ((bk tt).length + 1) cap)) := by
  have hty : ∀ i, i < n → ∀ q, (vs i).ownBlock = some q → q ≠ bc := fun i hi q hq e => by
    obtain ⟨_, cur, hc⟩ := own_own (h.own i hi) hq
    rw [e, h.blk] at hc
    injection hc with hc
    injection hc with _ hc
    cases hc
  have hb5 : w5.heap[bc]? = some (.cells (rowOf n vs) 23 (0, 0)) := (hO.block bc (Array.getElem?_eq_some_iff.1 h.blk).1 (fun hs => hty tt ht bc hs rfl)).trans h.blk
  have hO6 : Only (fun b => (vs tt).ownBlock = some b ∨ b = bc) Y (w5.setCell ⟨bc, tt, none⟩ (.slice (some ⟨g, 0, none⟩) ((bk tt).length + 1) cap)) := (hO.mono (S' := fun b => (vs tt).ownBlock = some b ∨ b = bc) (fun b hb => Or.inl hb)).setCell (p := ⟨bc, tt, none⟩) (Or.inr rfl) _
  have hlt : ∀ j, j < n → ∀ q, (vs j).ownBlock = some q → q < Y.heap.size := fun j hj q hq => by
    obtain ⟨_, cur, hc⟩ := own_own (h.own j hj) hq
    exact (Array.getElem?_eq_some_iff.1 hc).1
  have hnew : ∀ j, j < n → j ≠ tt → (vs j).ownBlock ≠ some g := fun j hj hne hq => by
    rcases hat with e | e
    · exact h.sep tt j ht hj (fun e2 => hne e2.symm) g e hq
    · have := hlt j hj g hq; omega
  refine ⟨⟨?_, fun t hh => ?_, fun i j hi hj hne q hq => ?_⟩, hO6⟩
  · rw [heap_setCell_at hb5, rowOf_set]
  · by_cases e : t = tt
    · subst e
      simp only [if_true]
      have h6 : (nums (bk t ++ [s])).toList = (nums (bk t)).toList ++ [.int .i64 (s : Int)] := by simp [nums]
      rw [h6, List.length_append]
      refine own_off h5 (fun cur hc => ?_)
      rw [hb5] at hc
      injection hc with hc
      injection hc with _ hc
      cases hc
    · simp only [if_neg e]
      refine own_stay (h.own t hh) hO6 (fun q hq hs => ?_)
      rcases hs with hs | hs
      · exact h.sep t tt hh ht e q hq hs
      · exact hty t hh q hq hs
  · by_cases e : i = tt
    · subst e
      rw [if_pos rfl] at hq
      injection hq with hq
      subst hq
      rw [if_neg (fun e2 => hne e2.symm)]
      exact hnew j hj (fun e2 => hne e2.symm)
    · rw [if_neg e] at hq
      by_cases e2 : j = tt
      · subst e2
        rw [if_pos rfl]
        intro hc
        injection hc with hc
        subst hc
        exact hnew i hi e hq
      · rw [if_neg e2]
        exact h.sep i j hi hj hne q hq
/-- which of the first s states lead to t. -/
def bkTo (nx : Nat → Nat) (s t : Nat) : List Nat := (List.range s).filter (fun x => nx x = t)
theorem bkTo_zero (nx : Nat → Nat) (t : Nat) : bkTo nx 0 t = [] := rfl
theorem bkTo_succ (nx : Nat → Nat) (s : Nat) : bkTo nx (s + 1) = fun i => if i = nx s then bkTo nx s (nx s) ++ [s] else bkTo nx s i := by
  funext i
  unfold bkTo
  rw [List.range_succ, List.filter_append]
  by_cases e : i = nx s
  · subst e; simp
  · rw [if_neg e]
    have : decide (nx s = i) = false := decide_eq_false (fun h => e h.symm)
    simp [this]
theorem bkTo_len (nx : Nat → Nat) (s t : Nat) : (bkTo nx s t).length ≤ s := by
  unfold bkTo
  have := List.length_filter_le (fun x => decide (nx x = t)) (List.range s)
  rw [List.length_range] at this
  exact this
end Go.Proofs.Ytelifjeppegcmaa
