/-
  Values of many cells stored in the middle of a block; a frame in the middle of a block; (*auto.places).begin at a place.
-/
import Derived.Test.YtfbcijnacbfjpaaBeg2
import Derived.Deep.MidRow
namespace Go.Proofs.Ytfbcijnacbfjpaa
open Go.RowKit Go.Maps
set_option linter.unusedVariables false
set_option linter.unusedSimpArgs false
/-- these put in from o on. -/
def putL : List Value → Array Value → Nat → Array Value
  | [], cs, _ => cs
  | v :: r, cs, o => putL r (cs.setIfInBounds o v) (o + 1)
theorem putL_size : ∀ (vs : List Value) (cs : Array Value) (o : Nat), (putL vs cs o).size = cs.size
  | [], _, _ => rfl
  | v :: r, cs, o => by rw [putL, putL_size r, Array.size_setIfInBounds]
theorem putL_at : ∀ (vs : List Value) (cs : Array Value) (o j : Nat), o + vs.length ≤ cs.size → (putL vs cs o)[j]? = if o ≤ j ∧ j < o + vs.length then vs[j - o]? else cs[j]?
  | [], cs, o, j, _ => by rw [putL, if_neg (by simp)]
  | v :: r, cs, o, j, h => by
    simp only [List.length_cons] at h ⊢
    rw [putL, putL_at r _ (o + 1) j (by rw [Array.size_setIfInBounds]; omega), Array.getElem?_setIfInBounds]
    by_cases e : o = j
    · subst e
      rw [if_neg (by omega), if_pos rfl, if_pos (by omega), if_pos (by omega)]
      simp
    · rw [if_neg e]
      by_cases h1 : o + 1 ≤ j ∧ j < o + 1 + r.length
      · rw [if_pos h1, if_pos (by omega), show j - o = (j - (o + 1)) + 1 by omega, List.getElem?_cons_succ]
      · rw [if_neg h1, if_neg (by omega)]
theorem heap_setCells {b : Nat} {t : TypeId} {z : Nat × Nat} : ∀ (vs : List Value) (o : Nat) (w : World) (cs : Array Value), w.heap[b]? = some (.cells cs t z) → (w.setCells b o vs).heap[b]? = some (.cells (putL vs cs o) t z)
  | [], _, _, _, h => h
  | v :: r, o, w, cs, h => by rw [World.setCells, putL]; exact heap_setCells r (o + 1) _ _ (heap_setCell_at h v)
theorem Only.setCells {S : Nat → Prop} {a : World} {b : Nat} (hb : S b) : ∀ (vs : List Value) (o : Nat) (w : World), Only S a w → Only S a (w.setCells b o vs)
  | [], _, _, h => h
  | v :: r, o, w, h => by rw [World.setCells]; exact Only.setCells hb r (o + 1) _ (h.setCell (p := ⟨b, o, none⟩) hb v)
theorem setCells_other {b h : Nat} (hn : h ≠ b) : ∀ (vs : List Value) (o : Nat) (w : World), (w.setCells b o vs).heap[h]? = w.heap[h]?
  | [], _, _ => rfl
  | v :: r, o, w => by rw [World.setCells, setCells_other hn r]; exact Below.heap_setCell _ _ _ _ hn
theorem there_blk {w : World} {b : Nat} {cs : Array Value} {t : TypeId} (h : w.heap[b]? = some (.cells cs t (0, 0))) (o n : Nat) (hn : o + n ≤ cs.size) : w.there b o n := fun j hj =>
  ⟨by rw [cell_blk h, Array.getElem?_eq_getElem (by omega)]; rfl, fz_blk h _⟩
theorem wpList_store_midTo {P : Program} {ops : Array Oper} {rest : List Oper} {op : Oper} {a : Act} {w : World} {Q : Exit → Act → World → Prop} (hgd : op.guard = none) (ty : TypeId) (x y : Operand) (ho : op.op = .store ty x y)
    (hd : op.dst = none) (b o : Nat) (cells : Array Value) (hx : a.eval x = .pointer (some ⟨b, o, none⟩)) (hy : a.eval y = .agg cells)
    (ht : w.there b o cells.size) (hi : (P.info? ty).map (·.size) = some cells.size) (h1 : cells.all (·.oneCell') = true)
    (h : wpList P ops Q rest a (w.setCells b o cells.toList)) : wpList P ops Q (op :: rest) a w :=
  wpList_store_mid hgd ty x y ho b o cells hx hy ht hi h1 (by rw [hd]; exact h)
theorem wpList_store_midAny {P : Program} {ops : Array Oper} {rest : List Oper} {op : Oper} {a : Act} {w : World} {Q : Exit → Act → World → Prop} (hgd : op.guard = none) (ty : TypeId) (x y : Operand) (ho : op.op = .store ty x y)
    (hd : op.dst = none) (b o : Nat) (cells : Array Value) (hx : a.eval x = .pointer (some ⟨b, o, none⟩)) (hy : a.eval y = .agg cells)
    (t : TypeId) (cs : Array Value) (hb : w.heap[b]? = some (.cells cs t (0, 0))) (hs : o + cells.size ≤ cs.size) (hi : (P.info? ty).map (·.size) = some cells.size) (h1 : cells.all (·.oneCell') = true)
    (h : ∀ w', w'.heap[b]? = some (.cells (putL cells.toList cs o) t (0, 0)) → Only (· = b) w w' → wpList P ops Q rest a w') : wpList P ops Q (op :: rest) a w :=
  wpList_store_midTo hgd ty x y ho hd b o cells hx hy (there_blk hb _ _ hs) hi h1 (h _ (heap_setCells _ _ _ _ hb) (Only.setCells (S := (· = b)) rfl _ _ _ (Only.refl _ _)))
theorem wpList_store_rowAny {P : Program} {ops : Array Oper} {rest : List Oper} {op : Oper} {a : Act} {w : World} {Q : Exit → Act → World → Prop} (hgd : op.guard = none) (ty : TypeId) (x y : Operand) (ho : op.op = .store ty x y)
    (hd : op.dst = none) (b : Nat) (cells : Array Value) (hx : a.eval x = .pointer (some ⟨b, 0, none⟩)) (hy : a.eval y = .agg cells)
    (t : TypeId) (cs : Array Value) (hb : w.heap[b]? = some (.cells cs t (0, 0))) (hi : (P.info? ty).map (·.size) = some cells.size) (hs : cs.size = cells.size) (h1 : cells.all (·.oneCell') = true)
    (h : ∀ w', w'.heap[b]? = some (.cells cells t (0, 0)) → Only (· = b) w w' → wpList P ops Q rest a w') : wpList P ops Q (op :: rest) a w :=
  wpList_store_rowTo hgd ty x y ho hd b cells hx hy t cs hb hi hs h1 (h _ (heap_setRow _ _ _ _ _ _ hb) ((Only.refl (· = b) _).setRow rfl _))
/-- a frame from o on. -/
def HasF (cs : Array Value) (o : Nat) (op : Int) (a : Option Addr) (m c : Nat) (x : Au.Nd) : Prop := ∀ k, k < 11 → cs[o + k]? = (fmC op a m c x)[k]?
/-- as it was, but for a frame from o on. -/
def Same (cs cs' : Array Value) (o : Nat) : Prop := cs'.size = cs.size ∧ ∀ j, j < o ∨ o + 11 ≤ j → cs'[j]? = cs[j]?
theorem Same.trans {a b c : Array Value} {o : Nat} (h : Same a b o) (k : Same b c o) : Same a c o := ⟨k.1.trans h.1, fun j hj => (k.2 j hj).trans (h.2 j hj)⟩
theorem HasF.size {cs : Array Value} {o : Nat} {op : Int} {a : Option Addr} {m c : Nat} {x : Au.Nd} (h : HasF cs o op a m c x) : o + 11 ≤ cs.size := by
  have := (Array.getElem?_eq_some_iff.1 ((h 10 (by decide)).trans rfl)).1
  omega
theorem HasF.first {cs : Array Value} {o : Nat} {op : Int} {a : Option Addr} {m c : Nat} {x : Au.Nd} (h : HasF cs o op a m c x) : HasS cs (o + 3) x.first := by
  intro k hk
  rw [show o + 3 + k = o + (3 + k) by omega, h (3 + k) (by omega)]
  rcases (show k = 0 ∨ k = 1 ∨ k = 2 ∨ k = 3 by omega) with rfl | rfl | rfl | rfl <;> rfl
theorem HasF.last {cs : Array Value} {o : Nat} {op : Int} {a : Option Addr} {m c : Nat} {x : Au.Nd} (h : HasF cs o op a m c x) : HasS cs (o + 7) x.last := by
  intro k hk
  rw [show o + 7 + k = o + (7 + k) by omega, h (7 + k) (by omega)]
  rcases (show k = 0 ∨ k = 1 ∨ k = 2 ∨ k = 3 by omega) with rfl | rfl | rfl | rfl <;> rfl
theorem fmC_cases {k : Nat} (h : k < 11) : k = 0 ∨ k = 1 ∨ k = 2 ∨ k = 3 ∨ k = 4 ∨ k = 5 ∨ k = 6 ∨ k = 7 ∨ k = 8 ∨ k = 9 ∨ k = 10 := by omega
theorem HasF.setB {cs : Array Value} {o : Nat} {op : Int} {a : Option Addr} {m c : Nat} {e : Bool} {f l : Nat} (h : HasF cs o op a m c ⟨e, f, l⟩) (e' : Bool) : HasF (cs.setIfInBounds (o + 2) (.bool e')) o op a m c ⟨e', f, l⟩ ∧ Same cs (cs.setIfInBounds (o + 2) (.bool e')) o := by
  have hs := h.size
  refine ⟨fun k hk => ?_, by simp, fun j hj => ?_⟩
  · rw [Array.getElem?_setIfInBounds]
    by_cases e2 : o + 2 = o + k
    · rw [if_pos e2, if_pos (by omega)]
      obtain rfl : k = 2 := by omega
      rfl
    · rw [if_neg e2, h k hk]
      rcases fmC_cases hk with rfl | rfl | rfl | rfl | rfl | rfl | rfl | rfl | rfl | rfl | rfl <;> first | rfl | omega
  · rw [Array.getElem?_setIfInBounds, if_neg (by omega)]
theorem HasF.setSl {cs : Array Value} {o : Nat} {op : Int} {a : Option Addr} {m c : Nat} {x : Au.Nd} (h : HasF cs o op a m c x) (a' : Option Addr) (m' c' : Nat) : HasF (cs.setIfInBounds (o + 1) (.slice a' m' c')) o op a' m' c' x ∧ Same cs (cs.setIfInBounds (o + 1) (.slice a' m' c')) o := by
  have hs := h.size
  refine ⟨fun k hk => ?_, by simp, fun j hj => ?_⟩
  · rw [Array.getElem?_setIfInBounds]
    by_cases e2 : o + 1 = o + k
    · rw [if_pos e2, if_pos (by omega)]
      obtain rfl : k = 1 := by omega
      rfl
    · rw [if_neg e2, h k hk]
      rcases fmC_cases hk with rfl | rfl | rfl | rfl | rfl | rfl | rfl | rfl | rfl | rfl | rfl <;> first | rfl | omega
  · rw [Array.getElem?_setIfInBounds, if_neg (by omega)]
theorem HasF.setF {cs : Array Value} {o : Nat} {op : Int} {a : Option Addr} {m c : Nat} {e : Bool} {f l : Nat} (h : HasF cs o op a m c ⟨e, f, l⟩) (S : Nat) : HasF (inC cs (o + 3) S 4) o op a m c ⟨e, S, l⟩ ∧ Same cs (inC cs (o + 3) S 4) o := by
  have hs := h.size
  refine ⟨fun k hk => ?_, by rw [inC_size], fun j hj => ?_⟩
  · rw [inC_at _ _ _ _ _ (by omega)]
    by_cases e2 : o + 3 ≤ o + k ∧ o + k < o + 3 + 4
    · rw [if_pos e2]
      rcases fmC_cases hk with rfl | rfl | rfl | rfl | rfl | rfl | rfl | rfl | rfl | rfl | rfl <;> first | omega | (rw [show ∀ q, o + q - (o + 3) = q - 3 by omega]; rfl)
    · rw [if_neg e2, h k hk]
      rcases fmC_cases hk with rfl | rfl | rfl | rfl | rfl | rfl | rfl | rfl | rfl | rfl | rfl <;> first | rfl | omega
  · rw [inC_at _ _ _ _ _ (by omega), if_neg (by omega)]
theorem HasF.setL {cs : Array Value} {o : Nat} {op : Int} {a : Option Addr} {m c : Nat} {e : Bool} {f l : Nat} (h : HasF cs o op a m c ⟨e, f, l⟩) (S : Nat) : HasF (inC cs (o + 7) S 4) o op a m c ⟨e, f, S⟩ ∧ Same cs (inC cs (o + 7) S 4) o := by
  have hs := h.size
  refine ⟨fun k hk => ?_, by rw [inC_size], fun j hj => ?_⟩
  · rw [inC_at _ _ _ _ _ (by omega)]
    by_cases e2 : o + 7 ≤ o + k ∧ o + k < o + 7 + 4
    · rw [if_pos e2]
      rcases fmC_cases hk with rfl | rfl | rfl | rfl | rfl | rfl | rfl | rfl | rfl | rfl | rfl <;> first | omega | (rw [show ∀ q, o + q - (o + 7) = q - 7 by omega]; rfl)
    · rw [if_neg e2, h k hk]
      rcases fmC_cases hk with rfl | rfl | rfl | rfl | rfl | rfl | rfl | rfl | rfl | rfl | rfl <;> first | rfl | omega
  · rw [inC_at _ _ _ _ _ (by omega), if_neg (by omega)]
end Go.Proofs.Ytfbcijnacbfjpaa
