/-
  The ways of one state, while they are put one behind the other.
-/
import Derived.Test.YtelifjeppegcmaaNd
namespace Go.Proofs.Ytelifjeppegcmaa
open Go.RowKit Go.Maps
set_option linter.unusedVariables false
set_option linter.unusedSimpArgs false
structure Wv (V : World) (oB : Nat) (vC : Value) (vs : List Value) (vW : Value) (F : List Nat) : Prop where
  own : V.ownsRow (oB + 1) 3 1 vW F.length (natI F)
  far : ∀ q, vW.ownBlock = some q → vC.ownBlock ≠ some q
  fr : ∀ r ∈ vs, ∀ q, r.ownBlock = some q → vW.ownBlock ≠ some q
theorem Wv.idle {V V' : World} {oB : Nat} {vC vW : Value} {vs : List Value} {F : List Nat} (h : Wv V oB vC vs vW F) (ho : Only (fun _ => False) V V') : Wv V' oB vC vs vW F := ⟨own_only h.own ho (fun _ _ h => h), h.far, h.fr⟩
theorem Wv.start (V : World) (oB : Nat) (vC : Value) (vs : List Value) : Wv V oB vC vs (.slice none 0 0) [] := ⟨⟨rfl, Or.inl ⟨rfl, rfl⟩⟩, (fun q hq => by cases hq), (fun r _ q _ h => by cases h)⟩
theorem Wv.addCome {V V' : World} {oB g m cap H : Nat} {vC vW : Value} {vs : List Value} {F : List Nat} (h : Wv V oB vC vs vW F) (ho : Only (fun b => vC.ownBlock = some b) V V') (hat : vC.ownBlock = some g ∨ g = H) (hH : V.heap.size ≤ H) : Wv V' oB (.slice (some ⟨g, 0, none⟩) m cap) vs vW F := by
  refine ⟨own_stay h.own ho (fun q hq => h.far q hq), fun q hq e => ?_, h.fr⟩
  have e2 : g = q := by injection e
  subst e2
  rcases hat with h1 | h1
  · exact h.far g hq h1
  · have := own_lt h.own hq
    omega
theorem Wv.add {V V' : World} {oB lB n g cap H j : Nat} {nu : Nat → Int} {come : List Nat} {vC vN vO vW : Value} {rows : List (List Nat)} {outs : List Nat} {vs : List Value} {F : List Nat} (hN : Nm V oB lB n nu come vC vN vO rows outs vs) (h : Wv V oB vC vs vW F) (ho : Only (fun b => vW.ownBlock = some b) V V') (h5 : V'.ownsRow (oB + 1) 3 1 (.slice (some ⟨g, 0, none⟩) (F.length + 1) cap) (F.length + 1) (natI F ++ [.int .i64 (j : Int)])) (hat : vW.ownBlock = some g ∨ g = H) (hH : V.heap.size ≤ H) : Nm V' oB lB n nu come vC vN vO rows outs vs ∧ Wv V' oB vC vs (.slice (some ⟨g, 0, none⟩) (F.length + 1) cap) (F ++ [j]) := by
  refine ⟨hN.keep ho (fun e => by have := (own_own h.own e).1; omega) (fun q hq e => h.far q e hq) (own_ne h.own hN.lst (by decide)) (fun q hq e => own_ne2 h.own hN.nx (by decide) hq e) (fun r hr q hq => h.fr r hr q hq) (fun q hq e => own_ne2 h.own hN.out (by decide) hq e), ⟨?_, fun q hq e => ?_, fun r hr q hq e => ?_⟩⟩
  · rw [natI_snoc, List.length_append]
    exact h5
  · have e2 : g = q := by injection hq
    subst e2
    rcases hat with h1 | h1
    · exact h.far g h1 e
    · have := own_lt hN.com e
      omega
  · have e2 : g = q := by injection e
    subst e2
    rcases hat with h1 | h1
    · exact h.fr r hr g hq h1
    · obtain ⟨L, hL⟩ := hN.one hr
      have := own_lt hL hq
      omega
/-- while states are put in a row. -/
def Lo (W1 W : World) (n nc oB lB : Nat) (nx : Nat → Nat → Nat) (O f : Nat → Nat) (gC cap m i : Nat) : Prop := ∃ come rows outs vs vN vO, Nm W oB lB n (fun x => ((f x : Nat) : Int)) come (.slice (some ⟨gC, 0, none⟩) m cap) vN vO rows outs vs ∧ Hm.Nu n nc nx O come rows outs ∧ (∀ i t : Nat, come[i]? = some t → f t = t) ∧ rows.length = i ∧ come.length = m ∧ Only (fun b => oB ≤ b) W1 W
def Li (W1 V : World) (n nc oB lB : Nat) (nx : Nat → Nat → Nat) (O f : Nat → Nat) (come0 : List Nat) (s : Nat) (vN vO : Value) (rows : List (List Nat)) (outs : List Nat) (vs : List Value) (gC cap m : Nat) (aW : Option Addr) (kW c : Nat) : Prop := ∃ come F, Nm V oB lB n (fun x => ((f x : Nat) : Int)) come (.slice (some ⟨gC, 0, none⟩) m cap) vN vO rows outs vs ∧ Wv V oB (.slice (some ⟨gC, 0, none⟩) m cap) vs (.slice aW c kW) F ∧ Hm.Nr n nc nx O come0 s come F ∧ (∀ i t : Nat, come[i]? = some t → f t = t) ∧ F.length = c ∧ come.length = m ∧ Only (fun b => oB ≤ b) W1 V
theorem row_cell {V : World} {base g m cap i s : Nat} {come : List Nat} (h : V.ownsRow base 3 1 (.slice (some ⟨g, 0, none⟩) m cap) come.length (natI come)) (hs : come[i]? = some s) : V.cell? ⟨g, i, none⟩ = some (.int .i64 (s : Int)) := by
  obtain ⟨g', cap', hv, _, _, hcc⟩ := own_cells h (by have := (List.getElem?_eq_some_iff.1 hs).1; omega)
  injection hv with hv1
  injection hv1 with hv1
  injection hv1 with hv1
  rw [hv1]
  exact hcc i _ (by unfold natI; rw [List.getElem?_map, hs]; rfl)
end Go.Proofs.Ytelifjeppegcmaa
