/-
  What the laws lean on: automata of one's own, handed to each function.
-/
import Derived.Test.YtelifjeppegcmaaCp
import Derived.Test.YtelifjeppegcmaaMd
import Derived.Test.YtelifjeppegcmaaLr
import Derived.Test.YtelifjeppegcmaaAw
namespace Go.Proofs.Ytelifjeppegcmaa
open Go.RowKit Go.Maps
set_option linter.unusedVariables false
set_option linter.unusedSimpArgs false
theorem Ra.form {W : World} {lo : Nat} {v : Value} {rows : List (List Nat)} {outs : List Nat} (h : Ra W lo v rows outs) : ∃ aX kX aO kO, v = .agg #[.slice aX rows.length kX, .slice aO outs.length kO] := by
  obtain ⟨vX, vO, rws, rfl, h2, h3, h4, h5⟩ := h
  obtain ⟨aX, kX, rfl⟩ := own_form h3
  obtain ⟨aO, kO, rfl⟩ := own_form h5
  exact ⟨aX, kX, aO, kO, by rw [h2]⟩
theorem Uw.keep {w w' : World} {a : Option Addr} {n : Nat} {L : List Nat} (h : Uw w a n L) (ho : Only (fun _ => False) w w') : Uw w' a n L := by
  obtain ⟨hl, b, off, h1, h2⟩ := h
  refine ⟨hl, b, off, fun h0 => ⟨(h1 h0).1, Nat.lt_of_lt_of_le (h1 h0).2 ho.size⟩, fun j x hj => ?_⟩
  exact ⟨keepC ho (h2 j x hj).1, (h2 j x hj).2⟩
/-- how the reference's Least ends. -/
def lsP (n k : Nat) (d : Nat → Nat → Nat) (o : Nat → Nat) (w : World) (e : Ending) (w' : World) : Prop := ∃ v rows outs r, e = .returned v ∧ Ra w' w.heap.size v rows outs ∧ Hm.Lst n k d o rows outs r ∧ Only (fun _ => False) w w'
theorem least_ra (lo k : Nat) (v : Value) (rows : List (List Nat)) (outs : List Nat) (w : World) (h : Ra w lo v rows outs) (hk : Hm.Ok rows outs k) (hn : rows.length ≤ 100000) (hc : k ≤ 100000) : Calls Try.prog 14 #[v] w (lsP rows.length k (Hm.dR rows) (Hm.oR outs) w) := by
  obtain ⟨bn, cN, bo, co, rfl, h1, h2⟩ := h.nxt hk
  exact refLeast_any rows.length k bn 0 cN bo 0 co (Hm.dR rows) (Hm.oR outs) w hk.pos hn hc h1 h2
theorem mk_ok {n k : Nat} {rows : List (List Nat)} {outs : List Nat} (h0 : 0 < n) (h1 : rows.length = n) (h2 : outs.length = n) (h3 : RowsIn n k rows) : Hm.Ok rows outs k := ⟨by omega, by omega, fun i row hr => (h3 i row hr).1, fun i row hr x hx => by rw [h1]; exact (h3 i row hr).2 x hx⟩
theorem Lst_len {n k : Nat} {d : Nat → Nat → Nat} {o : Nat → Nat} {rows : List (List Nat)} {outs r : List Nat} (h : Hm.Lst n k d o rows outs r) (hk : k ≤ 1000) : ∀ L ∈ rows, L.length ≤ 1000 := fun L hL => by
  obtain ⟨i, hi⟩ := List.getElem?_of_mem hL
  rw [h.ok.rlen i L hi]
  exact hk
theorem Ok_len {rows : List (List Nat)} {outs : List Nat} {k : Nat} (h : Hm.Ok rows outs k) (hk : k ≤ 1000) : ∀ L ∈ rows, L.length ≤ 1000 := fun L hL => by
  obtain ⟨i, hi⟩ := List.getElem?_of_mem hL
  rw [h.rlen i L hi]
  exact hk
/-- a struct of two slices in a block, and what lay there. -/
theorem box_at {W Z : World} {c : Array Value} (hZ : Z = W.alloc (.cells c 27)) : Only (fun _ => False) W Z ∧ Z.heap[W.heap.size]? = some (.cells c 27 (0, 0)) ∧ W.heap.size < Z.heap.size := by
  rw [hZ]
  exact ⟨(Only.refl _ _).alloc _, heap_alloc_new _ _, by simp⟩
end Go.Proofs.Ytelifjeppegcmaa
