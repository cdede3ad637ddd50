/-
  The reference's pattern: a word's reading, by definition.
-/
import Derived.Test.YtjgbfpemkjpikaaDoorR2
import Derived.Test.YtjgbfpemkjpikaaDoorL10
namespace Go.Proofs.YtjgbfpemkjpikaaDoor
open Go.RowKit Go.Maps
set_option linter.unusedVariables false
set_option linter.unusedSimpArgs false
/-- how it ends. -/
def rfP (w : World) (R : Option Pt.Pat) (e : Ending) (w' : World) : Prop :=
  match R with
  | none => ∃ a m c b n d, e = .returned (.tuple #[.agg #[.slice a m c, .slice b n d], .bool false]) ∧ Only (fun _ => False) w w'
  | some p => ∃ gL cL gV cV, e = .returned (.tuple #[.agg #[.slice (some ⟨gL, 0, none⟩) p.letters.length cL, .slice (some ⟨gV, 0, none⟩) p.values.length cV], .bool true]) ∧ Nl w' (some ⟨gL, 0, none⟩) p.letters.length p.letters ∧ Bl w' (some ⟨gV, 0, none⟩) p.values.length p.values ∧ p.letters.length ≤ 24 ∧ p.values.length ≤ 25 ∧ Only (fun _ => False) w w' ∧ w.heap.size ≤ gL ∧ w.heap.size ≤ gV ∧ 0 < p.letters.length ∧ p.values.length = p.letters.length + 1
theorem rfP_some {w W : World} {gL cL gV cV l : Nat} {ls vs : List Nat} {u v : Value} (h : Rp w W (.slice (some ⟨gL, 0, none⟩) l cL) (.slice (some ⟨gV, 0, none⟩) (l + 1) cV) l (l + 1) ls vs) (h0 : 0 < l) (h24 : l ≤ 24) :
    rfP w (some ⟨ls, vs⟩) (.returned (.tuple #[.agg #[.slice (some ⟨gL, 0, none⟩) l cL, .slice (some ⟨gV, 0, none⟩) (l + 1) cV], .bool true])) ((W.setCell ⟨w.heap.size, 0, none⟩ u).setCell ⟨w.heap.size, 1, none⟩ v) := by
  have hL := own_nl h.oL h.ll
  have hV := own_bl h.oV h.lv
  obtain ⟨g1, _, e1, hb1, _, _, _⟩ := row_form h.oL h0
  obtain ⟨g2, _, e2, hb2, _, _, _⟩ := row_form h.oV (Nat.succ_pos _)
  injection e1 with e1
  injection e1 with e1
  injection e1 with e1 _ _
  injection e2 with e2
  injection e2 with e2
  injection e2 with e2 _ _
  subst e1
  subst e2
  have hll := h.ll
  have hlv := h.lv
  have hne : ∀ x, x ≠ w.heap.size → ((W.setCell ⟨w.heap.size, 0, none⟩ u).setCell ⟨w.heap.size, 1, none⟩ v).heap[x]? = W.heap[x]? := fun x hx => (Below.heap_setCell _ _ _ _ hx).trans (Below.heap_setCell _ _ _ _ hx)
  have hsz : W.heap.size ≤ ((W.setCell ⟨w.heap.size, 0, none⟩ u).setCell ⟨w.heap.size, 1, none⟩ v).heap.size := by simp [World.setCell]
  subst hll
  refine ⟨gL, cL, gV, cV, ?_, hL.ofB h0 hsz (hne _ (by omega)), ?_, h24, ?_, set2_only h.on (Nat.le_refl _) _ _, by omega, by omega, h0, hlv⟩
  · simp only [hlv]
  · simp only [hlv]
    exact hV.ofB (Nat.succ_pos _) hsz (hne _ (by omega))
  · simp only [hlv]
    omega
theorem rfP_drew {w W : World} {R : Option Pt.Pat} {e : Ending} (h : rfP w R e W) : rfP w R e W.drew := by
  cases R with
  | none =>
    obtain ⟨a, m, c, b, n, d, h1, h2⟩ := h
    exact ⟨a, m, c, b, n, d, h1, h2.drew⟩
  | some p =>
    obtain ⟨gL, cL, gV, cV, h1, h2, h3, h4, h5, h6, h7⟩ := h
    exact ⟨gL, cL, gV, cV, h1, h2.keep (Only.refl _ _).drew, h3.keep (Only.refl _ _).drew, h4, h5, h6.drew, h7⟩
theorem ptok {j n : Nat} (h : j = 0 ∨ j = n - 1) : ¬ ((false : Bool) = true ∨ (j ≠ 0 ∧ j ≠ n - 1)) := by
  intro h'
  rcases h' with h' | h'
  · cases h'
  · omega
theorem wcell {w W : World} {b off j : Nat} {x : Value} (h : Only (fun _ => False) w W) (hb : b < w.heap.size) (hc : w.cell? ⟨b, off + j, none⟩ = some x) : W.cell? ⟨b, off + j, none⟩ = some x := (World.cell?_of_block (a := ⟨b, off + j, none⟩) (h.block b hb (fun h => h))).trans hc
theorem wcell3 {w W : World} {b off j k : Nat} {x v : Value} (h : Only (fun _ => False) w (W.setCell ⟨w.heap.size + 1, k, none⟩ v)) (hb : b < w.heap.size) (hc : w.cell? ⟨b, off + j, none⟩ = some x) : W.cell? ⟨b, off + j, none⟩ = some x := (World.cell?_of_block (a := ⟨b, off + j, none⟩) ((Below.heap_setCell (W) ⟨w.heap.size + 1, k, none⟩ v b (by simp; omega)).symm.trans (h.block b hb (fun h => h)))).trans hc
theorem Hid_in' {p : Prop} (h : p) : Hid p := h
end Go.Proofs.YtjgbfpemkjpikaaDoor
