/-
  One more state's ways, and what it tells, in memory; what the states tell, in plain words.
-/
import Derived.Test.YtfbcijnacbfjpaaSts0
namespace Go.Proofs.Ytfbcijnacbfjpaa
open Go.RowKit Go.Maps
set_option linter.unusedVariables false
set_option linter.unusedSimpArgs false
theorem Ost.next {w W W2 : World} {g cl : Nat} {p : Au.Pl} {fs : Nat} {vL : Value} {em : Nat} {Ls found : List Nat} {fv v' : Value} {rows : List (Nat × List Nat)} {o : List Nat} {vN vO : Value} (h : Ost w W g cl p fs vL em Ls found fv rows o vN vO) {r : Nat × List Nat} (hr : w.heap.size + 1 + 1 + 1 ≤ r.1 ∧ W.heap[r.1]? = some (.cells (wcs r.2 cl) 3 (0, 0)) ∧ r.2.length = cl)
    (hf : W2.ownsRow (w.heap.size + 1 + 1 + 1) 43 1 v' (rows.length + 1) (rows.map (rowV cl) ++ [rowV cl r])) (ho2 : Only (fun q => vN.ownBlock = some q) W W2) : Ost w (W2.setCell ⟨w.heap.size + 1, 0, none⟩ v') g cl p fs vL em Ls found fv (rows ++ [r]) o v' vO := by
  obtain ⟨a1, a2, a3, ⟨D, a4, a5⟩, a6, a7, a8, a9, a10, a11, a12⟩ := h
  have hfl : ∀ q, vN.ownBlock = some q → w.heap.size + 1 + 1 + 1 ≤ q := fun q hq => (a9.lt q hq).1
  have hlow : ∀ b, b < w.heap.size + 1 + 1 + 1 → ¬ vN.ownBlock = some b := fun b hb hp => by have := hfl b hp; omega
  have hS : Only (· = w.heap.size + 1) W2 (W2.setCell ⟨w.heap.size + 1, 0, none⟩ v') := Only.setCell (S := (· = w.heap.size + 1)) (Only.refl _ _) (p := ⟨w.heap.size + 1, 0, none⟩) rfl v'
  have hO : Only (fun q => q = w.heap.size + 1 ∨ vN.ownBlock = some q) W (W2.setCell ⟨w.heap.size + 1, 0, none⟩ v') := (ho2.mono (fun _ h => Or.inr h)).trans (hS.mono (fun _ h => Or.inl h))
  have hn : ∀ b, b < w.heap.size + 1 + 1 + 1 → b ≠ w.heap.size + 1 → ¬ (b = w.heap.size + 1 ∨ vN.ownBlock = some b) := fun b hb hne e => e.elim hne (hlow b hb)
  refine ⟨a1.only hO (hn _ (by omega) (by omega)), a2, a3.only hO (fun b hb => hn b (by omega) (by omega)), ⟨D, ownsMap_only a4 hO (hn _ (by omega) (by omega)), a5⟩, own_keep a6 hO ?_, ?_, ?_, ?_, ?_, ?_, a12.trans (hO.mono ?_)⟩
  · have H : ∀ q, fv.ownBlock = some q → ¬ vN.ownBlock = some q := by
      intro q hq e
      obtain ⟨_, ⟨hv, _⟩ | ⟨g', cap, cur, hv, _, hh, _⟩⟩ := a6
      · rw [hv] at hq; cases hq
      · rw [hv] at hq
        injection hq with hq
        simp only at hq
        subst hq
        exact own_ne a9 hh (by decide) e
    intro q hq e
    rcases e with e | e
    · have := (a6.lt q hq).1; omega
    · exact H q hq e
  · exact (hO.block _ (Array.getElem?_eq_some_iff.1 a7).1 (hn _ (by omega) (by omega))).trans a7
  · exact heap_setCell_at ((ho2.block _ (Array.getElem?_eq_some_iff.1 a8).1 (hlow _ (by omega))).trans a8) v'
  · have e : (rows ++ [r]).length = rows.length + 1 := by simp
    rw [e, List.map_append]
    exact own_keep hf hS (fun q hq e => by have := (hf.lt q hq).1; omega)
  · have H : ∀ q, vO.ownBlock = some q → ¬ vN.ownBlock = some q := by
      intro q hq e
      obtain ⟨_, ⟨hv, _⟩ | ⟨g', cap, cur, hv, _, hh, _⟩⟩ := a10
      · rw [hv] at hq; cases hq
      · rw [hv] at hq
        injection hq with hq
        simp only at hq
        subst hq
        exact own_ne a9 hh (by decide) e
    refine own_keep a10 hO ?_
    intro q hq e
    rcases e with e | e
    · have := (a10.lt q hq).1; omega
    · exact H q hq e
  · intro r' hr'
    have hX : w.heap.size + 1 + 1 + 1 ≤ r'.1 ∧ W.heap[r'.1]? = some (.cells (wcs r'.2 cl) 3 (0, 0)) ∧ r'.2.length = cl := by
      rcases List.mem_append.1 hr' with h1 | h1
      · exact a11 r' h1
      · simp at h1
        subst h1
        exact hr
    obtain ⟨b1, b2, b3⟩ := hX
    refine ⟨b1, (hO.block _ (Array.getElem?_eq_some_iff.1 b2).1 ?_).trans b2, b3⟩
    intro e; rcases e with e | e
    · omega
    · exact own_ne a9 b2 (by decide) e
  · intro b hb
    rcases hb with e | e
    · omega
    · have := hfl b e; omega
theorem Ost.tell {w W W2 : World} {g cl : Nat} {p : Au.Pl} {fs : Nat} {vL : Value} {em : Nat} {Ls found : List Nat} {fv v' : Value} {rows : List (Nat × List Nat)} {o : List Nat} {vN vO : Value} (h : Ost w W g cl p fs vL em Ls found fv rows o vN vO) {x : Nat}
    (hf : W2.ownsRow (w.heap.size + 1 + 1 + 1) 47 1 v' (o.length + 1) (o.map u32V ++ [u32V x])) (ho2 : Only (fun q => vO.ownBlock = some q) W W2) : Ost w (W2.setCell ⟨w.heap.size + 1, 1, none⟩ v') g cl p fs vL em Ls found fv rows (o ++ [x]) vN v' := by
  obtain ⟨a1, a2, a3, ⟨D, a4, a5⟩, a6, a7, a8, a9, a10, a11, a12⟩ := h
  have hfl : ∀ q, vO.ownBlock = some q → w.heap.size + 1 + 1 + 1 ≤ q := fun q hq => (a10.lt q hq).1
  have hlow : ∀ b, b < w.heap.size + 1 + 1 + 1 → ¬ vO.ownBlock = some b := fun b hb hp => by have := hfl b hp; omega
  have hS : Only (· = w.heap.size + 1) W2 (W2.setCell ⟨w.heap.size + 1, 1, none⟩ v') := Only.setCell (S := (· = w.heap.size + 1)) (Only.refl _ _) (p := ⟨w.heap.size + 1, 1, none⟩) rfl v'
  have hO : Only (fun q => q = w.heap.size + 1 ∨ vO.ownBlock = some q) W (W2.setCell ⟨w.heap.size + 1, 1, none⟩ v') := (ho2.mono (fun _ h => Or.inr h)).trans (hS.mono (fun _ h => Or.inl h))
  have hn : ∀ b, b < w.heap.size + 1 + 1 + 1 → b ≠ w.heap.size + 1 → ¬ (b = w.heap.size + 1 ∨ vO.ownBlock = some b) := fun b hb hne e => e.elim hne (hlow b hb)
  refine ⟨a1.only hO (hn _ (by omega) (by omega)), a2, a3.only hO (fun b hb => hn b (by omega) (by omega)), ⟨D, ownsMap_only a4 hO (hn _ (by omega) (by omega)), a5⟩, own_keep a6 hO ?_, ?_, ?_, ?_, ?_, ?_, a12.trans (hO.mono ?_)⟩
  · have H : ∀ q, fv.ownBlock = some q → ¬ vO.ownBlock = some q := by
      intro q hq e
      obtain ⟨_, ⟨hv, _⟩ | ⟨g', cap, cur, hv, _, hh, _⟩⟩ := a6
      · rw [hv] at hq; cases hq
      · rw [hv] at hq
        injection hq with hq
        simp only at hq
        subst hq
        exact own_ne a10 hh (by decide) e
    intro q hq e
    rcases e with e | e
    · have := (a6.lt q hq).1; omega
    · exact H q hq e
  · exact (hO.block _ (Array.getElem?_eq_some_iff.1 a7).1 (hn _ (by omega) (by omega))).trans a7
  · exact heap_setCell_at ((ho2.block _ (Array.getElem?_eq_some_iff.1 a8).1 (hlow _ (by omega))).trans a8) v'
  · have H : ∀ q, vN.ownBlock = some q → ¬ vO.ownBlock = some q := by
      intro q hq e
      obtain ⟨_, ⟨hv, _⟩ | ⟨g', cap, cur, hv, _, hh, _⟩⟩ := a9
      · rw [hv] at hq; cases hq
      · rw [hv] at hq
        injection hq with hq
        simp only at hq
        subst hq
        exact own_ne a10 hh (by decide) e
    refine own_keep a9 hO ?_
    intro q hq e
    rcases e with e | e
    · have := (a9.lt q hq).1; omega
    · exact H q hq e
  · have e : (o ++ [x]).length = o.length + 1 := by simp
    rw [e, List.map_append]
    exact own_keep hf hS (fun q hq e => by have := (hf.lt q hq).1; omega)
  · intro r' hr'
    obtain ⟨b1, b2, b3⟩ := a11 r' hr'
    refine ⟨b1, (hO.block _ (Array.getElem?_eq_some_iff.1 b2).1 ?_).trans b2, b3⟩
    intro e; rcases e with e | e
    · omega
    · exact own_ne a10 b2 (by decide) e
  · intro b hb
    rcases hb with e | e
    · omega
    · have := hfl b e; omega
theorem fold_bit (P : Nat → Prop) [DecidablePred P] (m0 r : Nat) : ∀ k, ((List.range k).foldl (fun m i => if P i then m ||| 2 ^ i else m) m0).testBit r = (m0.testBit r || (decide (r < k) && decide (P r)))
  | 0 => by simp
  | k + 1 => by
    rw [List.range_succ, List.foldl_append]
    simp only [List.foldl_cons, List.foldl_nil]
    by_cases hP : P k
    · rw [if_pos hP, Nat.testBit_or, fold_bit P m0 r k, Nat.testBit_two_pow]
      by_cases e : k = r
      · subst e
        simp [hP]
      · have : (decide (r < k + 1)) = decide (r < k) := by simp; omega
        rw [this]
        simp [e]
    · rw [if_neg hP, fold_bit P m0 r k]
      by_cases e : k = r
      · subst e
        simp [hP]
      · have : (decide (r < k + 1)) = decide (r < k) := by simp; omega
        rw [this]
/-- the expressions that say the empty row, as bits. -/
def emK (l : List Au.Nd) : Nat := (List.range l.length).foldl (fun m i => if (l[i]?.map (·.none)).getD false = true then m ||| 2 ^ i else m) 0
theorem out_eq (l : List Au.Nd) (S : Nat) : outK (l.map (·.last)) S (emK l) l.length = Au.out l S := by
  apply Nat.eq_of_testBit_eq
  intro r
  have h1 : outK (l.map (·.last)) S (emK l) l.length = (List.range l.length).foldl (fun m i => if S &&& ((l.map (·.last))[i]?.getD 0) ≠ 0 then m ||| 2 ^ i else m) (emK l) := rfl
  have h2 : Au.out l S = (List.range l.length).foldl (fun m i => if (∃ x, l[i]? = some x ∧ (x.none = true ∨ S &&& x.last ≠ 0)) then m ||| 2 ^ i else m) 0 := by
    unfold Au.out
    congr 1
    funext m i
    cases h : l[i]? with
    | none => simp
    | some x => simp
  rw [h1, fold_bit, h2, fold_bit, emK, fold_bit]
  by_cases hr : r < l.length
  · have hl : l[r]? = some l[r] := List.getElem?_eq_getElem hr
    simp only [hl, List.getElem?_map, Option.map_some, Option.getD_some, hr, decide_true, Bool.true_and, Nat.zero_testBit, Bool.false_or]
    cases hx : l[r].none <;> simp [hx]
  · simp [hr]
theorem emK_lt (l : List Au.Nd) (h : l.length ≤ 24) : emK l < 2 ^ 24 := by
  apply Nat.lt_pow_two_of_testBit
  intro i hi
  rw [emK, fold_bit]
  simp
  omega
theorem emK_snoc (l : List Au.Nd) (x : Au.Nd) : emK (l ++ [x]) = if x.none = true then emK l ||| 2 ^ l.length else emK l := by
  apply Nat.eq_of_testBit_eq
  intro r
  rw [emK, fold_bit]
  have hE : (emK l).testBit r = (decide (r < l.length) && decide ((l[r]?.map (·.none)).getD false = true)) := by rw [emK, fold_bit]; simp
  by_cases hr : r < l.length
  · have e2 : ¬ l.length = r := by omega
    rw [List.getElem?_append_left hr]
    split
    · rw [Nat.testBit_or, hE, Nat.testBit_two_pow]
      simp [hr, e2]
      omega
    · rw [hE]
      simp [hr]
      omega
  · by_cases e : l.length = r
    · subst e
      split
      · rename_i hx
        rw [Nat.testBit_or, hE, Nat.testBit_two_pow]
        simp [hx]
      · rename_i hx
        rw [hE]
        simp [hx]
    · split
      · rw [Nat.testBit_or, hE, Nat.testBit_two_pow]
        simp [hr, e]
        omega
      · rw [hE]
        simp [hr]
        omega
end Go.Proofs.Ytfbcijnacbfjpaa
