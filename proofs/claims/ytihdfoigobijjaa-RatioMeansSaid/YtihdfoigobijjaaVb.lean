/-
  Slices that are read, in plain words; numbers as marks: what may be done.
-/
import Derived.Test.YtihdfoigobijjaaBs
import Derived.Deep.QuietTactic
import Derived.BigQuiet
namespace Go.Proofs.Ytihdfoigobijjaa
open Go.RowKit Go.Maps
set_option linter.unusedVariables false
set_option linter.unusedSimpArgs false
/-- a slice that is read: these cells, one behind the other. -/
def Vw (w : World) (a : Option Addr) (xs : List Value) : Prop := xs = [] ∨ ∃ b off, a = some ⟨b, off, none⟩ ∧ ∀ j u, xs[j]? = some u → w.cell? ⟨b, off + j, none⟩ = some u
theorem Vw.keep {w w' : World} {a : Option Addr} {xs : List Value} (h : Vw w a xs) (ho : Only (fun _ => False) w w') : Vw w' a xs := by
  rcases h with h | ⟨b, off, e, hc⟩
  · exact Or.inl h
  · exact Or.inr ⟨b, off, e, fun j u hj => keep0 ho (hc j u hj)⟩
theorem keepS {S : Nat → Prop} {w w' : World} {b k : Nat} {v : Value} (h : Only S w w') (hc : w.cell? ⟨b, k, none⟩ = some v) (hb : ¬ S b) : w'.cell? ⟨b, k, none⟩ = some v := (World.cell?_of_block (a := ⟨b, k, none⟩) (h.block b (World.block_lt_of_cell? w _ hc) hb)).trans hc
theorem Vw.cells {w : World} {a : Option Addr} {xs : List Value} (h : Vw w a xs) (hx : 0 < xs.length) : ∃ b off, a = some ⟨b, off, none⟩ ∧ b < w.heap.size ∧ ∀ j u, xs[j]? = some u → w.cell? ⟨b, off + j, none⟩ = some u := by
  rcases h with h | ⟨b, off, e, hc⟩
  · subst h; simp at hx
  · exact ⟨b, off, e, World.block_lt_of_cell? w ⟨b, off + 0, none⟩ (hc 0 _ (List.getElem?_eq_getElem hx)), hc⟩
theorem Vw.nil (w : World) (a : Option Addr) : Vw w a [] := Or.inl rfl
theorem own_vw {w : World} {base e size n c : Nat} {a : Option Addr} {xs : List Value} (h : w.ownsRow base e size (.slice a n c) n xs) : Vw w a xs := by
  obtain ⟨hl, ⟨hv, h0⟩ | ⟨g, cap, cur, hv, hb, hh, h1, h2, h3, h4⟩⟩ := h
  · exact Or.inl (List.eq_nil_of_length_eq_zero (by rw [hl, h0, Nat.zero_mul]))
  · injection hv with e1
    refine Or.inr ⟨g, 0, e1, fun j u hj => ?_⟩
    rw [Nat.zero_add]
    refine (cell_of_row _ _ _ _ _ _ hh).trans ?_
    rw [← h4, List.getElem?_take] at hj
    split at hj
    · rw [Array.getElem?_toList] at hj
      exact hj
    · cases hj
/-- numbers of eight bits as cells. -/
def u8s (L : List Nat) : List Value := L.map fun (x : Nat) => .int .u8 (x : Int)
theorem u8s_len (L : List Nat) : (u8s L).length = L.length := by simp [u8s]
theorem u8s_snoc (L : List Nat) (x : Nat) : u8s (L ++ [x]) = u8s L ++ [.int .u8 (x : Int)] := by simp [u8s]
theorem u8s_at {L : List Nat} {k x : Nat} (h : L[k]? = some x) : (u8s L)[k]? = some (.int .u8 (x : Int)) := by
  unfold u8s
  rw [List.getElem?_map, h]; rfl
theorem natI_get {L : List Nat} {k x : Nat} (h : L[k]? = some x) : (natI L)[k]? = some (.int .i64 (x : Int)) := by
  unfold natI
  rw [List.getElem?_map, h]; rfl
theorem u8s_one (L : List Nat) : ∀ u ∈ u8s L, u.oneCell' = true := by
  intro u hu
  obtain ⟨x, _, rfl⟩ := List.mem_map.1 hu
  rfl
theorem take_snoc {α : Type} {L : List α} {i : Nat} {x : α} (h : L[i]? = some x) : L.take (i + 1) = L.take i ++ [x] := by
  obtain ⟨hl, he⟩ := List.getElem?_eq_some_iff.1 h
  rw [List.take_add_one, h]
  rfl
end Go.Proofs.Ytihdfoigobijjaa
