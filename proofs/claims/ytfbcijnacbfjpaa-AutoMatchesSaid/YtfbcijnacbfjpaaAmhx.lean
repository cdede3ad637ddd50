/-
  An automaton that was made, as auto.Run reads it.
-/
import Derived.Test.YtfbcijnacbfjpaaAm0x
namespace Go.Proofs.Ytfbcijnacbfjpaa
open Go.RowKit Go.Maps
set_option linter.unusedVariables false
set_option linter.unusedSimpArgs false
open Rl (Ex)
theorem own_cells {w : World} {base e n : Nat} {v : Value} {xs : List Value} (h : w.ownsRow base e 1 v n xs) (hn : 0 < n) : ∃ g cap, v = .slice (some ⟨g, 0, none⟩) n cap ∧ g < w.heap.size ∧ n ≤ maxLen ∧ ∀ j u, xs[j]? = some u → w.cell? ⟨g, j, none⟩ = some u := by
  obtain ⟨hl, ⟨hv, h0⟩ | ⟨g, cap, cur, hv, hb, hh, h1, h2, h3, h4⟩⟩ := h
  · omega
  · refine ⟨g, cap, hv, (Array.getElem?_eq_some_iff.1 hh).1, by omega, fun j u hj => ?_⟩
    refine (cell_of_row _ _ _ _ _ _ hh).trans ?_
    have hjl := (List.getElem?_eq_some_iff.1 hj).1
    rw [← h4, List.getElem?_take] at hj
    split at hj
    · rw [Array.getElem?_toList] at hj
      exact hj
    · cases hj
def wyOf (r : Nat × List Nat) (cl : Nat) : Wy := ⟨some ⟨r.1, 0, none⟩, cl, cl, r.2.map (fun (t : Nat) => (t : Int))⟩
theorem aut_nw {w : World} {lo cl : Nat} {aN : Option Addr} {nN cN : Nat} {aO : Option Addr} {nO cO : Nat} {nx : List (List Nat)} {o : List Nat} (h : Aut w lo cl (.agg #[.slice aN nN cN, .slice aO nO cO]) nx o) (hcl : cl ≤ 24) (h0 : 0 < nx.length) (h1 : 0 < o.length) :
    ∃ ws, Nw w aN nN ws ∧ nN = nx.length ∧ nO = o.length ∧ nN ≤ maxLen ∧ (∀ (s : Nat) (L : List Nat), nx[s]? = some L → ∃ y, ws[s]? = some y ∧ y.n = cl ∧ y.L = L.map (fun (t : Nat) => (t : Int))) ∧ ∃ g, aO = some ⟨g, 0, none⟩ ∧ g < w.heap.size ∧ ∀ (s x : Nat), o[s]? = some x → w.cell? ⟨g, s, none⟩ = some (.int .u32 (x : Int)) := by
  obtain ⟨rows, vN, vO, e, rfl, h3, h4, h5⟩ := h
  simp only [Value.agg.injEq, Array.mk.injEq, List.cons.injEq, and_true] at e
  obtain ⟨rfl, rfl⟩ := e
  have hrl : 0 < rows.length := by simpa using h0
  obtain ⟨g, cap, hv, hg, hm, hc⟩ := own_cells h3 hrl
  obtain ⟨g', cap', hv', hg', hm', hc'⟩ := own_cells h4 h1
  injection hv with e1 e2 e3
  injection hv' with f1 f2 f3
  subst e1 e2 f1 f2
  refine ⟨rows.map (fun r => wyOf r cl), ⟨by simp, g, 0, fun _ => ⟨rfl, hg⟩, fun j x hj => ?_⟩, by simp, rfl, hm, fun s L hL => ?_, g', rfl, hg', fun s x hx => ?_⟩
  · rw [List.getElem?_map] at hj
    cases hr : rows[j]? with
    | none => rw [hr] at hj; cases hj
    | some r =>
      rw [hr] at hj
      injection hj with hj
      subst hj
      obtain ⟨b1, b2, b3⟩ := h5 r (List.mem_of_getElem? hr)
      refine ⟨⟨by simp [wyOf, b3], r.1, 0, fun _ => ⟨rfl, (Array.getElem?_eq_some_iff.1 b2).1⟩, fun i y hi => ?_⟩, by unfold wyOf maxLen; simp; omega, ?_⟩
      · simp only [wyOf] at hi
        rw [List.getElem?_map] at hi
        cases ht : r.2[i]? with
        | none => rw [ht] at hi; cases hi
        | some t =>
          rw [ht] at hi
          injection hi with hi
          subst hi
          have hil := (List.getElem?_eq_some_iff.1 ht).1
          rw [Nat.zero_add]
          refine (cell_of_row _ _ _ _ _ _ b2).trans ?_
          rw [wcs_at _ _ _ (by omega), ht]
          rfl
      · rw [Nat.zero_add]
        refine (hc j (rowV cl r) (by rw [List.getElem?_map, hr]; rfl)).trans ?_
        rfl
  · rw [List.getElem?_map] at hL
    cases hr : rows[s]? with
    | none => rw [hr] at hL; cases hL
    | some r =>
      rw [hr] at hL
      injection hL with hL
      subst hL
      exact ⟨wyOf r cl, by rw [List.getElem?_map, hr]; rfl, rfl, rfl⟩
  · exact hc' s (u32V x) (by rw [List.getElem?_map, hx]; rfl)
theorem run_runs {ws : List Wy} {nx : List (List Nat)} {cl : Nat} (h1 : ∀ (s : Nat) (L : List Nat), nx[s]? = some L → ∃ y, ws[s]? = some y ∧ y.n = cl ∧ y.L = L.map (fun (t : Nat) => (t : Int)))
    (h2 : ∀ s, s < nx.length → ∃ w, nx[s]? = some w ∧ ∀ c, c < cl → ∃ t, w[c]? = some t ∧ t < nx.length) : ∀ (C : List Int) (s : Nat), s < nx.length → (∀ c ∈ C, 0 ≤ c ∧ c < (cl : Int)) → run ws (s : Int) C = (Au.runs nx s C).map (fun (t : Nat) => (t : Int))
  | [], s, hs, hC => by simp [run, Au.runs]
  | c :: cs, s, hs, hC => by
    obtain ⟨w, hw, hk⟩ := h2 s hs
    obtain ⟨y, hy, hyn, hyL⟩ := h1 s w hw
    have hc := hC c (by simp)
    obtain ⟨t, ht, htl⟩ := hk c.toNat (by omega)
    have hwy : wy ws (s : Int) = y := by
      unfold wy
      rw [if_pos (by omega), Int.toNat_natCast, hy]
      rfl
    have e1 : (((nx[s]?.getD [])[c.toNat]?).getD 0) = t := by rw [hw, Option.getD_some, ht, Option.getD_some]
    have e2 : (y.L[c.toNat]?).getD 0 = (t : Int) := by rw [hyL, List.getElem?_map, ht]; rfl
    unfold run Au.runs
    rw [hwy, if_pos (by rw [hyn]; exact hc), e1, e2, List.map_cons, run_runs h1 h2 cs t htl (fun c h => hC c (by simp [h]))]
theorem ok_nexts {p : Au.Pl} {l : List Au.Nd} {F classes : Nat} {Fd : List Nat} {nx : List (List Nat)} {o : List Nat} (hl : nx.length = Fd.length) (hk : ∀ k, k < Fd.length → Au.Okst p l F classes Fd nx o k) : ∀ s, s < nx.length → ∃ w, nx[s]? = some w ∧ ∀ c, c < classes → ∃ t, w[c]? = some t ∧ t < nx.length := fun s hs => by
  obtain ⟨S, w, a1, a2, a3, a4, a5⟩ := hk s (by omega)
  refine ⟨w, a2, fun c hc => ?_⟩
  obtain ⟨t, t1, t2⟩ := a5 c hc
  exact ⟨t, t1, by have := (List.getElem?_eq_some_iff.1 t2).1; omega⟩
end Go.Proofs.Ytfbcijnacbfjpaa
