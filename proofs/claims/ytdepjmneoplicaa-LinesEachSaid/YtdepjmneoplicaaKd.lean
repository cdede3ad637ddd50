/-
  The rests of a part's boundaries: in plain words, and in memory.
-/
import Derived.Test.YtdepjmneoplicaaKc
import Derived.Test.YtdepjmneoplicaaRb
import Derived.Test.YtdepjmneoplicaaDt
namespace Go.Proofs.Ytdepjmneoplicaa
open Go.RowKit Go.Maps
set_option linter.unusedVariables false
set_option linter.unusedSimpArgs false
namespace Ds
/-- what is known of the rest of a boundary (Z: no line ends there, and nothing is known). -/
def Rs (f : Nat → Nat → Option Nat) (Z : Nat → Prop) (b j : Nat) (m : Bool) (s x : Nat) : Prop :=
  (m = true ∧ ∃ E, Best f b j E s ∧ (j < b → ∃ F, E = x :: F)) ∨ (m = false ∧ (Z j ∨ No f b j))
/-- of a boundary a, when lines up to ends ahead of e were tried. -/
def Ir (f : Nat → Nat → Option Nat) (b a e : Nat) (m : Bool) (s x : Nat) : Prop :=
  (m = false ∧ ∀ j y, a < j → j < e → j ≤ b → f a j = some y → No f b j) ∨
  (m = true ∧ ∃ y0 E r, a < x ∧ x < e ∧ x ≤ b ∧ f a x = some y0 ∧ Best f b x E r ∧ s = y0 + r ∧ ∀ j y, a < j → j < e → j ≤ b → f a j = some y → No f b j ∨ ∃ F r', Best f b j F r' ∧ s ≤ y + r' ∧ (y + r' = s → x ≤ j))
theorem Ir.start (f : Nat → Nat → Option Nat) (b a : Nat) : Ir f b a (a + 1) false 0 0 := Or.inl ⟨rfl, fun j y h1 h2 => by omega⟩
theorem Ir.skip {f : Nat → Nat → Option Nat} {b a e s x : Nat} {m : Bool} (h : Ir f b a e m s x) (hn : f a e = none ∨ No f b e) : Ir f b a (e + 1) m s x := by
  rcases h with ⟨h1, h2⟩ | ⟨h1, y0, E, r, g1, g2, g3, g4, g5, g6, g7⟩
  · refine Or.inl ⟨h1, fun j y k1 k2 k3 k4 => ?_⟩
    by_cases q : j = e
    · subst q
      rcases hn with hn | hn
      · rw [hn] at k4; cases k4
      · exact hn
    · exact h2 j y k1 (by omega) k3 k4
  · refine Or.inr ⟨h1, y0, E, r, g1, by omega, g3, g4, g5, g6, fun j y k1 k2 k3 k4 => ?_⟩
    by_cases q : j = e
    · subst q
      rcases hn with hn | hn
      · rw [hn] at k4; cases k4
      · exact Or.inl hn
    · exact g7 j y k1 (by omega) k3 k4
theorem Ir.put {f : Nat → Nat → Option Nat} {b a e s x y r : Nat} {m : Bool} {E : List Nat} (h : Ir f b a e m s x) (ha : a < e) (hb : e ≤ b) (hf : f a e = some y) (hE : Best f b e E r) (hc : m = false ∨ y + r < s) : Ir f b a (e + 1) true (y + r) e := by
  refine Or.inr ⟨rfl, y, E, r, ha, by omega, hb, hf, hE, rfl, fun j z k1 k2 k3 k4 => ?_⟩
  by_cases q : j = e
  · subst q
    rw [hf] at k4
    injection k4 with k4
    subst k4
    exact Or.inr ⟨E, r, hE, Nat.le_refl _, fun _ => Nat.le_refl _⟩
  · rcases h with ⟨h1, h2⟩ | ⟨h1, y0, E0, r0, g1, g2, g3, g4, g5, g6, g7⟩
    · exact Or.inl (h2 j z k1 (by omega) k3 k4)
    · rcases g7 j z k1 (by omega) k3 k4 with q1 | ⟨F, r', q1, q2, q3⟩
      · exact Or.inl q1
      · rcases hc with hc | hc
        · rw [hc] at h1; cases h1
        · exact Or.inr ⟨F, r', q1, by omega, fun e => by omega⟩
theorem Ir.keep {f : Nat → Nat → Option Nat} {b a e s x y r : Nat} {E : List Nat} (h : Ir f b a e true s x) (hf : f a e = some y) (hE : Best f b e E r) (hc : s ≤ y + r) : Ir f b a (e + 1) true s x := by
  rcases h with ⟨h1, h2⟩ | ⟨h1, y0, E0, r0, g1, g2, g3, g4, g5, g6, g7⟩
  · cases h1
  · refine Or.inr ⟨h1, y0, E0, r0, g1, by omega, g3, g4, g5, g6, fun j z k1 k2 k3 k4 => ?_⟩
    by_cases q : j = e
    · subst q
      rw [hf] at k4
      injection k4 with k4
      subst k4
      exact Or.inr ⟨E, r, hE, hc, fun _ => by omega⟩
    · exact g7 j z k1 (by omega) k3 k4
theorem Ir.stop {f : Nat → Nat → Option Nat} {b a e s x : Nat} {m : Bool} (h : Ir f b a e m s x) (hn : ∀ j, e ≤ j → f a j = none) : ∀ k, e ≤ k → Ir f b a k m s x := by
  intro k hk
  rcases h with ⟨h1, h2⟩ | ⟨h1, y0, E0, r0, g1, g2, g3, g4, g5, g6, g7⟩
  · refine Or.inl ⟨h1, fun j y k1 k2 k3 k4 => ?_⟩
    by_cases q : j < e
    · exact h2 j y k1 q k3 k4
    · rw [hn j (by omega)] at k4; cases k4
  · refine Or.inr ⟨h1, y0, E0, r0, g1, by omega, g3, g4, g5, g6, fun j z k1 k2 k3 k4 => ?_⟩
    by_cases q : j < e
    · exact g7 j z k1 q k3 k4
    · rw [hn j (by omega)] at k4; cases k4
theorem Ir.done {f : Nat → Nat → Option Nat} {Z : Nat → Prop} {b a s x : Nat} {m : Bool} (h : Ir f b a (b + 1) m s x) (ha : a < b) : Rs f (fun _ => False) b a m s x := by
  rcases h with ⟨h1, h2⟩ | ⟨h1, y0, E0, r0, g1, g2, g3, g4, g5, g6, g7⟩
  · exact Or.inr ⟨h1, Or.inr (no_back ha (fun j y k1 k2 k3 => h2 j y k1 (by omega) k2 k3))⟩
  · refine Or.inl ⟨h1, x :: E0, ?_, fun _ => ⟨E0, rfl⟩⟩
    rw [g6]
    exact best_back g1 g4 g5 (fun j y k1 k2 k3 => by have := g7 j y k1 (by omega) k2 k3; rw [g6] at this; exact this)
theorem Rs.weak {f : Nat → Nat → Option Nat} {Z : Nat → Prop} {b j s x : Nat} {m : Bool} (h : Rs f (fun _ => False) b j m s x) : Rs f Z b j m s x := by
  rcases h with h | ⟨h1, h2 | h2⟩
  · exact Or.inl h
  · exact h2.elim
  · exact Or.inr ⟨h1, Or.inr h2⟩
theorem Rs.small {f : Nat → Nat → Option Nat} {Z : Nat → Prop} {b j s x M : Nat} (h : Rs f Z b j true s x) (hM : ∀ i j y, f i j = some y → y ≤ M) : s ≤ (b - j) * M := by
  rcases h with ⟨_, E, hE, _⟩ | ⟨h1, _⟩
  · exact Nat.le_trans (cst_le hM E hE.cost) (Nat.mul_le_mul_right _ (by have := hE.row.length; omega))
  · cases h1
end Ds
/-- a row of rests, cell by cell. -/
def rcl (M : Nat → Bool) (S X : Nat → Nat) (c : Nat) : Value := if c % 3 = 0 then .bool (M (c / 3)) else if c % 3 = 1 then .int .i64 (S (c / 3) : Int) else .int .i64 (X (c / 3) : Int)
def Rw (W : World) (rb N : Nat) (M : Nat → Bool) (S X : Nat → Nat) : Prop := W.heap[rb]? = some (.cells (rowOf (N * 3) (rcl M S X)) 73 (0, 0))
theorem Rw.at {W : World} {rb N : Nat} {M : Nat → Bool} {S X : Nat → Nat} (h : Rw W rb N M S X) {j c : Nat} (hj : j < N) (hc : c = j * 3) : W.cell? ⟨rb, c, none⟩ = some (.bool (M j)) ∧ W.cell? ⟨rb, c + 1, none⟩ = some (.int .i64 (S j : Int)) ∧ W.cell? ⟨rb, c + 2, none⟩ = some (.int .i64 (X j : Int)) := by
  subst hc
  refine ⟨?_, ?_, ?_⟩
  · rw [cell_blk h, rowOf_at _ (by omega)]
    unfold rcl
    rw [if_pos (by omega), show j * 3 / 3 = j by omega]
  · rw [cell_blk h, rowOf_at _ (by omega)]
    unfold rcl
    rw [if_neg (by omega), if_pos (by omega), show (j * 3 + 1) / 3 = j by omega]
  · rw [cell_blk h, rowOf_at _ (by omega)]
    unfold rcl
    rw [if_neg (by omega), if_neg (by omega), show (j * 3 + 2) / 3 = j by omega]
theorem Rw.keep {W W' : World} {rb N : Nat} {M : Nat → Bool} {S X : Nat → Nat} (h : Rw W rb N M S X) (ho : Only (fun _ => False) W W') : Rw W' rb N M S X := blk_keep ho h
theorem Rw.fz {W : World} {rb N : Nat} {M : Nat → Bool} {S X : Nat → Nat} (h : Rw W rb N M S X) (k : Nat) : W.frozen? ⟨rb, k, none⟩ = false := fz_blk h k
theorem Rw.lt {W : World} {rb N : Nat} {M : Nat → Bool} {S X : Nat → Nat} (h : Rw W rb N M S X) : rb < W.heap.size := (Array.getElem?_eq_some_iff.1 h).1
theorem Rw.set3 {W : World} {rb N : Nat} {M : Nat → Bool} {S X : Nat → Nat} (h : Rw W rb N M S X) {j c : Nat} (hc : c = j * 3) (m : Bool) (s x : Nat) : Rw (((W.setCell ⟨rb, c, none⟩ (.bool m)).setCell ⟨rb, c + 1, none⟩ (.int .i64 (s : Int))).setCell ⟨rb, c + 2, none⟩ (.int .i64 (x : Int))) rb N (fun i => if i = j then m else M i) (fun i => if i = j then s else S i) (fun i => if i = j then x else X i) := by
  subst hc
  unfold Rw
  rw [heap_setCell_at (heap_setCell_at (heap_setCell_at h _) _) _, rowOf_set, rowOf_set, rowOf_set]
  congr 3
  funext i
  unfold rcl
  simp only []
  by_cases e : i / 3 = j
  · rw [if_pos e, if_pos e, if_pos e]
    rcases (show i % 3 = 0 ∨ i % 3 = 1 ∨ i % 3 = 2 by omega) with q | q | q
    · rw [if_neg (by omega), if_neg (by omega), if_pos (by omega), if_pos q]
    · rw [if_neg (by omega), if_pos (by omega), if_neg (by omega), if_pos q]
    · rw [if_pos (by omega), if_neg (by omega), if_neg (by omega)]
  · rw [if_neg e, if_neg e, if_neg e, if_neg (by omega), if_neg (by omega), if_neg (by omega)]
theorem Rw.may {W : World} {rb N : Nat} {M : Nat → Bool} {S X : Nat → Nat} (h : Rw W rb N M S X) {j c : Nat} (hc : c = j * 3) (m : Bool) : Rw (W.setCell ⟨rb, c, none⟩ (.bool m)) rb N (fun i => if i = j then m else M i) S X := by
  subst hc
  unfold Rw
  rw [heap_setCell_at h _, rowOf_set]
  congr 3
  funext i
  unfold rcl
  simp only []
  by_cases e : i / 3 = j
  · rw [if_pos e]
    rcases (show i % 3 = 0 ∨ i % 3 = 1 ∨ i % 3 = 2 by omega) with q | q | q
    · rw [if_pos (by omega), if_pos q]
    · rw [if_neg (by omega), if_neg (by omega), if_pos q, if_neg (by omega)]
    · rw [if_neg (by omega), if_neg (by omega), if_neg (by omega), if_neg (by omega)]
  · rw [if_neg e, if_neg (by omega)]
/-- rests that were just made. -/
theorem Rw.made {W : World} {base rb N : Nat} (h : W.ownsRow base 73 3 (.slice (some ⟨rb, 0, none⟩) N N) N (madeCells #[.bool false, .int .i64 0, .int .i64 0] (N * 3)).toList) : Rw W rb N (fun _ => false) (fun _ => 0) (fun _ => 0) ∧ base ≤ rb := by
  obtain ⟨hl, ⟨hv, h0⟩ | ⟨g, cap, cur, hv, h1, h2, h3, h4, h5, h6⟩⟩ := h
  · cases hv
  · injection hv with e1 e2 e3
    injection e1 with e1
    injection e1 with e1
    subst e1
    subst e3
    refine ⟨?_, h1⟩
    unfold Rw
    rw [h2]
    congr 2
    have hs : cur.toList.length = N * 3 := by rw [Array.length_toList, h5]
    rw [List.take_of_length_le (by omega)] at h6
    have h7 : cur = madeCells #[.bool false, .int .i64 0, .int .i64 0] (N * 3) := by
      apply Array.ext'
      exact h6
    rw [h7]
    apply Array.ext_getElem?
    intro i
    by_cases hi : i < N * 3
    · rw [rowOf_at _ hi, Array.getElem?_eq_getElem (by rw [size_madeCells]; exact hi)]
      unfold rcl
      simp only [madeCells, Array.getElem_map, Array.getElem_range]
      rcases (show i % 3 = 0 ∨ i % 3 = 1 ∨ i % 3 = 2 by omega) with q | q | q
      · rw [if_pos q]; simp [q]
      · rw [if_neg (by omega), if_pos q]; simp [q]
      · rw [if_neg (by omega), if_neg (by omega)]; simp [q]
    · rw [Array.getElem?_eq_none (by rw [size_madeCells]; omega), Array.getElem?_eq_none (by rw [rowOf_size]; omega)]
end Go.Proofs.Ytdepjmneoplicaa
