/-
  The document's search in memory: sums, and rows of ends.
-/
import Derived.Test.YtdepjmneoplicaaAi
import Derived.Test.YtdepjmneoplicaaDp
namespace Go.Proofs.Ytdepjmneoplicaa
open Go.RowKit Go.Maps
set_option linter.unusedVariables false
set_option linter.unusedSimpArgs false
/-- a row that can be read, in a block from lim on. -/
def Vx (W : World) (lim : Nat) (a : Option Addr) (xs : List Value) : Prop := xs = [] ∨ ∃ b off, a = some ⟨b, off, none⟩ ∧ lim ≤ b ∧ ∀ j u, xs[j]? = some u → W.cell? ⟨b, off + j, none⟩ = some u
theorem Vx.vw {W : World} {lim : Nat} {a : Option Addr} {xs : List Value} (h : Vx W lim a xs) : Vw W a xs := by
  rcases h with h | ⟨b, off, e, _, hc⟩
  · exact Or.inl h
  · exact Or.inr ⟨b, off, e, hc⟩
theorem Vx.keep {W W' : World} {lim : Nat} {a : Option Addr} {xs : List Value} (h : Vx W lim a xs) (ho : Only (fun g => g < lim) W W') : Vx W' lim a xs := by
  rcases h with h | ⟨b, off, e, hb, hc⟩
  · exact Or.inl h
  · refine Or.inr ⟨b, off, e, hb, fun j u hj => ?_⟩
    have h1 := hc j u hj
    have hl : b < W.heap.size := World.block_lt_of_cell? W _ h1
    exact (World.cell?_of_block (a := ⟨b, off + j, none⟩) (ho.block b hl (by omega))).trans h1
theorem Vx.own {W : World} {base lim n c : Nat} {a : Option Addr} {xs : List Value} (h : W.ownsRow base 3 1 (.slice a n c) n xs) (hb : lim ≤ base) : Vx W lim a xs := by
  obtain ⟨hl, ⟨hv, h0⟩ | ⟨g, cap, cur, hv, h1, h2, h3, h4, h5, h6⟩⟩ := h
  · exact Or.inl (List.eq_nil_of_length_eq_zero (by rw [hl, h0, Nat.zero_mul]))
  · injection hv with e1
    refine Or.inr ⟨g, 0, e1, by omega, fun j u hj => ?_⟩
    rw [Nat.zero_add, cell_of_row _ _ _ _ _ _ h2]
    have hjl := (List.getElem?_eq_some_iff.1 hj).1
    rw [← h6, List.getElem?_take] at hj
    split at hj
    · rw [Array.getElem?_toList] at hj
      exact hj
    · cases hj
structure Bm (w0 W : World) (sb eb N lim : Nat) (S : Nat → Nat) (E : Nat → List Nat) : Prop where
  sm : W.heap[sb]? = some (.cells (rowOf N fun j => .int .i64 ((S j : Nat) : Int)) 3 (0, 0))
  en : ∃ V : Nat → Value, W.heap[eb]? = some (.cells (rowOf N V) 47 (0, 0)) ∧ ∀ j, j < N → ∃ al c, V j = .slice al (E j).length c ∧ Vx W lim al (natI (E j))
  only : Only (fun g => w0.heap.size ≤ g) w0 W
  l0 : w0.heap.size ≤ sb
  l1 : sb < eb
  l2 : eb < lim
  l3 : lim ≤ W.heap.size
theorem Bm.grow {w0 W W' : World} {sb eb N lim : Nat} {S : Nat → Nat} {E : Nat → List Nat} (h : Bm w0 W sb eb N lim S E) (ho : Only (fun _ => False) W W') : Bm w0 W' sb eb N lim S E := by
  obtain ⟨h1, ⟨V, h2, h3⟩, h4, h5, h6, h7, h8⟩ := h
  refine ⟨blk_keep ho h1, ⟨V, blk_keep ho h2, fun j hj => ?_⟩, h4.trans (ho.mono (fun _ h => h.elim)), h5, h6, h7, Nat.le_trans h8 ho.size⟩
  obtain ⟨al, c, e1, e2⟩ := h3 j hj
  exact ⟨al, c, e1, e2.keep (ho.mono (fun _ h => h.elim))⟩
theorem Bm.old {w0 W : World} {sb eb N lim : Nat} {S : Nat → Nat} {E : Nat → List Nat} (h : Bm w0 W sb eb N lim S E) : Only (fun _ => False) w0 W := h.only.old (fun b hb => Or.inl hb)
theorem Bm.getS {w0 W : World} {sb eb N lim : Nat} {S : Nat → Nat} {E : Nat → List Nat} (h : Bm w0 W sb eb N lim S E) {d : Nat} (hd : d < N) : W.cell? ⟨sb, d, none⟩ = some (.int .i64 ((S d : Nat) : Int)) := by
  rw [cell_blk h.sm, rowOf_at _ hd]
theorem Bm.getE {w0 W : World} {sb eb N lim : Nat} {S : Nat → Nat} {E : Nat → List Nat} (h : Bm w0 W sb eb N lim S E) {d : Nat} (hd : d < N) : ∃ al c, W.cell? ⟨eb, d, none⟩ = some (.slice al (E d).length c) ∧ Vx W lim al (natI (E d)) := by
  obtain ⟨V, h2, h3⟩ := h.en
  obtain ⟨al, c, e1, e2⟩ := h3 d hd
  exact ⟨al, c, by rw [cell_blk h2, rowOf_at _ hd, e1], e2⟩
theorem Bm.fz {w0 W : World} {sb eb N lim : Nat} {S : Nat → Nat} {E : Nat → List Nat} (h : Bm w0 W sb eb N lim S E) (d : Nat) : W.frozen? ⟨sb, d, none⟩ = false ∧ W.frozen? ⟨eb, d, none⟩ = false := by
  obtain ⟨V, h2, _⟩ := h.en
  exact ⟨fz_blk h.sm d, fz_blk h2 d⟩
theorem Bm.lt {w0 W : World} {sb eb N lim : Nat} {S : Nat → Nat} {E : Nat → List Nat} (h : Bm w0 W sb eb N lim S E) : sb < W.heap.size ∧ eb < W.heap.size := by
  have := h.l1; have := h.l2; have := h.l3
  exact ⟨by omega, by omega⟩
theorem Bm.setS {w0 W : World} {sb eb N lim : Nat} {S : Nat → Nat} {E : Nat → List Nat} (h : Bm w0 W sb eb N lim S E) (d x : Nat) : Bm w0 (W.setCell ⟨sb, d, none⟩ (.int .i64 (x : Int))) sb eb N lim (fun j => if j = d then x else S j) E := by
  obtain ⟨h1, ⟨V, h2, h3⟩, h4, h5, h6, h7, h8⟩ := h
  have hs : (W.setCell ⟨sb, d, none⟩ (.int .i64 (x : Int))).heap.size = W.heap.size := by simp [World.setCell]
  refine ⟨?_, ⟨V, (Below.heap_setCell _ _ _ _ (by show eb ≠ sb; omega)).trans h2, fun j hj => ?_⟩, h4.setCell (p := ⟨sb, d, none⟩) h5 _, h5, h6, h7, by rw [hs]; exact h8⟩
  · rw [heap_setCell_at h1, rowOf_set]
    congr 3
    funext j
    by_cases e : j = d
    · rw [if_pos e, if_pos e]
    · rw [if_neg e, if_neg e]
  · obtain ⟨al, c, e1, e2⟩ := h3 j hj
    exact ⟨al, c, e1, e2.keep ((Only.refl (fun g => g < lim) W).setCell (p := ⟨sb, d, none⟩) (by show sb < lim; omega) _)⟩
theorem Bm.setE {w0 W : World} {sb eb N lim : Nat} {S : Nat → Nat} {E : Nat → List Nat} (h : Bm w0 W sb eb N lim S E) (d : Nat) (al : Option Addr) (c n : Nat) (F : List Nat) (hn : n = F.length) (hV : Vx W lim al (natI F)) : Bm w0 (W.setCell ⟨eb, d, none⟩ (.slice al n c)) sb eb N lim S (fun j => if j = d then F else E j) := by
  obtain ⟨h1, ⟨V, h2, h3⟩, h4, h5, h6, h7, h8⟩ := h
  have hs : (W.setCell ⟨eb, d, none⟩ (.slice al n c)).heap.size = W.heap.size := by simp [World.setCell]
  have ho : Only (fun g => g < lim) W (W.setCell ⟨eb, d, none⟩ (.slice al n c)) := (Only.refl (fun g => g < lim) W).setCell (p := ⟨eb, d, none⟩) (by show eb < lim; omega) _
  refine ⟨(Below.heap_setCell _ _ _ _ (by show sb ≠ eb; omega)).trans h1, ⟨fun j => if j = d then .slice al n c else V j, by rw [heap_setCell_at h2, rowOf_set], fun j hj => ?_⟩, h4.setCell (p := ⟨eb, d, none⟩) (by show w0.heap.size ≤ eb; omega) _, h5, h6, h7, by rw [hs]; exact h8⟩
  by_cases e : j = d
  · refine ⟨al, c, ?_, ?_⟩
    · show (if j = d then Value.slice al n c else V j) = .slice al (if j = d then F else E j).length c
      rw [if_pos e, if_pos e, hn]
    · rw [if_pos e]; exact hV.keep ho
  · obtain ⟨al', c', e1, e2⟩ := h3 j hj
    refine ⟨al', c', ?_, ?_⟩
    · show (if j = d then Value.slice al n c else V j) = .slice al' (if j = d then F else E j).length c'
      rw [if_neg e, if_neg e]; exact e1
    · rw [if_neg e]; exact e2.keep ho
end Go.Proofs.Ytdepjmneoplicaa

