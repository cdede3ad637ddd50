/-
  A table of bools in memory: which states are told apart.
-/
import Derived.Test.YtelifjeppegcmaaNm
namespace Go.Proofs.Ytelifjeppegcmaa
open Go.RowKit Go.Maps
set_option linter.unusedVariables false
set_option linter.unusedSimpArgs false
/-- the rows' slices, of the first m. -/
def mxV (aB n m : Nat) (i : Nat) : Value := if i < m then .slice (some ⟨aB + 1 + i, 0, none⟩) n n else .slice none 0 0
structure Mx (W : World) (aB n m : Nat) (A : Nat → Nat → Bool) : Prop where
  top : W.heap[aB]? = some (.cells (rowOf n (mxV aB n m)) 45 (0, 0))
  row : ∀ i, i < m → W.heap[aB + 1 + i]? = some (.cells (rowOf n (fun k => .bool (A i k))) 4 (0, 0))
theorem Mx.at {W : World} {aB n m i : Nat} {A : Nat → Nat → Bool} (h : Mx W aB n m A) (hi : i < m) (hm : m ≤ n) : W.cell? ⟨aB, i, none⟩ = some (.slice (some ⟨aB + 1 + i, 0, none⟩) n n) := by
  rw [cell_blk h.top, rowOf_at _ (by omega)]
  unfold mxV
  rw [if_pos hi]
theorem Mx.cell {W : World} {aB n m i k : Nat} {A : Nat → Nat → Bool} (h : Mx W aB n m A) (hi : i < m) (hk : k < n) : W.cell? ⟨aB + 1 + i, k, none⟩ = some (.bool (A i k)) := by
  rw [cell_blk (h.row i hi), rowOf_at _ hk]
theorem Mx.fz {W : World} {aB n m i : Nat} {A : Nat → Nat → Bool} (h : Mx W aB n m A) (hi : i < m) (k : Nat) : W.frozen? ⟨aB + 1 + i, k, none⟩ = false := fz_blk (h.row i hi) k
theorem Mx.keep {S : Nat → Prop} {W W' : World} {aB n m : Nat} {A : Nat → Nat → Bool} (h : Mx W aB n m A) (ho : Only S W W') (hS : ∀ b, S b → b < aB ∨ aB + m < b) : Mx W' aB n m A :=
  ⟨(ho.block aB (Array.getElem?_eq_some_iff.1 h.top).1 (fun hs => by have := hS _ hs; omega)).trans h.top, fun i hi => (ho.block _ (Array.getElem?_eq_some_iff.1 (h.row i hi)).1 (fun hs => by have := hS _ hs; omega)).trans (h.row i hi)⟩
theorem rowOf_congr {n : Nat} {f g : Nat → Value} (h : ∀ i, i < n → f i = g i) : rowOf n f = rowOf n g := by
  unfold rowOf
  congr 1
  exact List.map_congr_left (fun i hi => h i (List.mem_range.1 hi))
theorem Mx.congr {W : World} {aB n m : Nat} {A A' : Nat → Nat → Bool} (h : Mx W aB n m A) (hA : ∀ i k, i < m → k < n → A i k = A' i k) : Mx W aB n m A' :=
  ⟨h.top, fun i hi => by rw [h.row i hi, rowOf_congr (fun k hk => by rw [hA i k hi hk])]⟩
/-- one is put. -/
theorem Mx.set {W : World} {aB n m i k : Nat} {A : Nat → Nat → Bool} (h : Mx W aB n m A) (hi : i < m) (b : Bool) : Mx (W.setCell ⟨aB + 1 + i, k, none⟩ (.bool b)) aB n m (fun x y => if x = i ∧ y = k then b else A x y) := by
  have ho : Only (fun q => q = aB + 1 + i) W (W.setCell ⟨aB + 1 + i, k, none⟩ (.bool b)) := (Only.refl (fun q => q = aB + 1 + i) W).setCell (p := ⟨aB + 1 + i, k, none⟩) rfl _
  refine ⟨(ho.block aB (Array.getElem?_eq_some_iff.1 h.top).1 (by omega)).trans h.top, fun j hj => ?_⟩
  by_cases e : j = i
  · subst e
    rw [heap_setCell_at (h.row j hi), rowOf_set]
    congr 2
    refine rowOf_congr (fun y hy => ?_)
    by_cases e2 : y = k
    · subst e2; simp
    · rw [if_neg e2, if_neg (fun h => e2 h.2)]
  · rw [(ho.block _ (Array.getElem?_eq_some_iff.1 (h.row j hj)).1 (by omega)).trans (h.row j hj)]
    congr 2
    refine rowOf_congr (fun y hy => ?_)
    rw [if_neg (fun h => e h.1)]
/-- one row more. -/
theorem made_bools (n : Nat) : madeCells #[.bool false] n = rowOf n (fun _ => .bool false) := by
  apply Array.ext
  · simp [rowOf, size_madeCells]
  · intro i h1 h2
    simp [madeCells, rowOf, Nat.mod_one]
theorem made_ints (n : Nat) : madeCells #[.int .i64 0] n = rowOf n (fun _ => .int .i64 0) := by
  apply Array.ext
  · simp [rowOf, size_madeCells]
  · intro i h1 h2
    simp [madeCells, rowOf, Nat.mod_one]
end Go.Proofs.Ytelifjeppegcmaa
