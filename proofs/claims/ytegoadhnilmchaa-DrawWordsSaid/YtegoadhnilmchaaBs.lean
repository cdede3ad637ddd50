/-
  Memory, in plain words.
-/
import Derived.Test.YtegoadhnilmchaaProg
import Derived.WalkKit
import Derived.WalkSpells
import Derived.WalkLawsBesides
import Derived.OwnWalk
import Derived.Maps.AppendAt
import Derived.Deep.LoopGhost
import Derived.Deep.AppendLies
import Derived.BigRegion
import Derived.BigQuiet
import Derived.Deep.MidRow
import Derived.Below
import Derived.Deep.RegionHeld3
import Derived.Deep.CutRange
namespace Go.Proofs.Ytegoadhnilmchaa
open Go.RowKit Go.Maps
set_option linter.unusedVariables false
set_option linter.unusedSimpArgs false
structure Only (S : Nat → Prop) (w w' : World) : Prop where
  os : w'.os = w.os
  tape : w'.tape = w.tape
  output : w'.output = w.output
  size : w.heap.size ≤ w'.heap.size
  block : ∀ g, g < w.heap.size → ¬ S g → w'.heap[g]? = w.heap[g]?
theorem Only.refl (S : Nat → Prop) (w : World) : Only S w w := ⟨rfl, rfl, rfl, Nat.le_refl _, fun _ _ _ => rfl⟩
theorem Only.trans {S : Nat → Prop} {a b c : World} (h : Only S a b) (k : Only S b c) : Only S a c :=
  ⟨k.os.trans h.os, k.tape.trans h.tape, k.output.trans h.output, Nat.le_trans h.size k.size, fun g hg hS => (k.block g (Nat.lt_of_lt_of_le hg h.size) hS).trans (h.block g hg hS)⟩
theorem Only.alloc {S : Nat → Prop} {a w : World} (h : Only S a w) (o : Obj) : Only S a (w.alloc o) :=
  h.trans ⟨rfl, rfl, rfl, by simp, fun g hg _ => Below.heap_alloc _ _ _ hg⟩
theorem Only.setCell {S : Nat → Prop} {a w : World} (h : Only S a w) {p : Addr} (hp : S p.block) (u : Value) : Only S a (w.setCell p u) :=
  h.trans ⟨rfl, rfl, rfl, by simp [World.setCell], fun g hg hS => Below.heap_setCell _ _ _ _ (fun e => hS (e ▸ hp))⟩
theorem Only.setNew {S : Nat → Prop} {a w : World} (h : Only S a w) {p : Addr} (hp : a.heap.size ≤ p.block) (u : Value) : Only S a (w.setCell p u) :=
  ⟨h.os, h.tape, h.output, by simp [World.setCell]; exact h.size, fun g hg hS => (Below.heap_setCell _ _ _ _ (fun e => by omega)).trans (h.block g hg hS)⟩
theorem Only.grown {S : Nat → Prop} {a w w' : World} {row : Option Nat} (h : Only S a w) (hg : w.grownBy w' row) (hr : ∀ k, row = some k → S k) : Only S a w' :=
  h.trans ⟨hg.os, hg.tape, hg.output, hg.size, fun g hgl hS => hg.block g hgl (fun e => hS (hr g e.symm))⟩
theorem Only.drew {S : Nat → Prop} {a w : World} (h : Only S a w) : Only S a w.drew := ⟨h.os, h.tape, h.output, h.size, h.block⟩
theorem Only.drewN {S : Nat → Prop} {a w : World} (h : Only S a w) (n : Nat) : Only S a (w.drewN n) := ⟨h.os, h.tape, h.output, h.size, h.block⟩
theorem Only.below {S : Nat → Prop} {a w : World} {B : Nat} (h : Only S a w) (hB : B ≤ a.heap.size) (hS : ∀ g, S g → B ≤ g) : Below B a w :=
  ⟨h.os, h.tape, h.output, h.size, fun g hg => h.block g (by omega) (fun hs => by have := hS g hs; omega)⟩
theorem Only.mono {S S' : Nat → Prop} {a w : World} (h : Only S a w) (hS : ∀ g, S g → S' g) : Only S' a w := ⟨h.os, h.tape, h.output, h.size, fun g hg hn => h.block g hg (fun hs => hn (hS g hs))⟩

theorem Only.old {P Q : Nat → Prop} {w0 w : World} (h : Only P w0 w) (hP : ∀ g, P g → w0.heap.size ≤ g ∨ Q g) : Only Q w0 w := ⟨h.os, h.tape, h.output, h.size, fun g hg hn => h.block g hg (fun hp => (hP g hp).elim (fun h => by omega) hn)⟩
theorem cell_of_row (w : World) (b i : Nat) (cs : Array Value) (t : TypeId) (z : Nat × Nat) (h : w.heap[b]? = some (.cells cs t z)) : w.cell? ⟨b, i, none⟩ = cs[i]? := by
  simp [World.cell?, h]
theorem heap_setCell_at {w : World} {b k : Nat} {cs : Array Value} {t : TypeId} {z : Nat × Nat} (h : w.heap[b]? = some (.cells cs t z)) (v : Value) : (w.setCell ⟨b, k, none⟩ v).heap[b]? = some (.cells (cs.setIfInBounds k v) t z) := by
  obtain ⟨hb, e⟩ := Array.getElem?_eq_some_iff.1 h
  simp [World.setCell, hb, Array.getElem_modify, e]
theorem cell_blk {w : World} {b k : Nat} {cs : Array Value} {t : TypeId} (h : w.heap[b]? = some (.cells cs t (0, 0))) : w.cell? ⟨b, k, none⟩ = cs[k]? := cell_of_row _ _ _ _ _ _ h
theorem fz_blk {w : World} {b : Nat} {cs : Array Value} {t : TypeId} (h : w.heap[b]? = some (.cells cs t (0, 0))) (k : Nat) : w.frozen? ⟨b, k, none⟩ = false := by simp [World.frozen?, h]
theorem info_parts {P : Program} {e : TypeId} {z : Value} {n b : Nat} (h : (P.info? e).map (fun i => (i.zero, i.size, i.bytes)) = some (some z, n, b)) : ∃ i, P.info? e = some i ∧ i.zero = some z ∧ i.size = n ∧ i.bytes = b := by
  cases hi : P.info? e with
  | none => rw [hi] at h; cases h
  | some i =>
    rw [hi] at h
    simp only [Option.map_some, Option.some.injEq, Prod.mk.injEq] at h
    exact ⟨i, rfl, h.1, h.2.1, h.2.2⟩
theorem own_form {w : World} {base e size n : Nat} {v : Value} {xs : List Value} (h : w.ownsRow base e size v n xs) : ∃ a cap, v = .slice a n cap := by
  obtain ⟨hl, ⟨hv, h0⟩ | ⟨g, cap, cur, hv, _⟩⟩ := h
  · subst h0; exact ⟨none, 0, hv⟩
  · exact ⟨_, cap, hv⟩
theorem own_only {w w' : World} {base e size n : Nat} {v : Value} {xs : List Value} {P : Nat → Prop} (h : w.ownsRow base e size v n xs) (ho : Only P w w') (hP : ∀ g, base ≤ g → ¬ P g) : w'.ownsRow base e size v n xs := by
  obtain ⟨hl, h | ⟨g, cap, cur, hv, hb, hh, h1⟩⟩ := h
  · exact ⟨hl, Or.inl h⟩
  · exact ⟨hl, Or.inr ⟨g, cap, cur, hv, hb, (ho.block g (Array.getElem?_eq_some_iff.1 hh).1 (hP g hb)).trans hh, h1⟩⟩
theorem row_form {w : World} {base e size n : Nat} {v : Value} {xs : List Value} (h : w.ownsRow base e size v n xs) (hn : 0 < n) :
    ∃ g cap, v = .slice (some ⟨g, 0, none⟩) n cap ∧ base ≤ g ∧ g < w.heap.size ∧ n ≤ cap ∧ ∀ j, j < n * size → w.cell? ⟨g, j, none⟩ = xs[j]? := by
  obtain ⟨hl, ⟨hv, h0⟩ | ⟨g, cap, cur, hv, h1, h2, h3, h4, h5, h6⟩⟩ := h
  · omega
  · refine ⟨g, cap, hv, h1, (Array.getElem?_eq_some_iff.1 h2).1, h3, fun j hj => ?_⟩
    rw [cell_of_row w g j cur e (0, 0) h2, ← h6, List.getElem?_take, if_pos hj]
    simp
theorem own_addr {w : World} {base e size n : Nat} {v : Value} {xs : List Value} (h : w.ownsRow base e size v n xs) (hv : v ≠ .slice none 0 0) : ∃ g cap, v = .slice (some ⟨g, 0, none⟩) n cap ∧ base ≤ g ∧ g < w.heap.size ∧ n ≤ cap := by
  obtain ⟨_, ⟨e, _⟩ | ⟨g, cap, cur, e, hb, hh, hc, _⟩⟩ := h
  · exact (hv e).elim
  · exact ⟨g, cap, e, hb, (Array.getElem?_eq_some_iff.1 hh).1, hc⟩
theorem own_cells {w : World} {base e n : Nat} {v : Value} {xs : List Value} (h : w.ownsRow base e 1 v n xs) (hn : 0 < n) : ∃ g cap, v = .slice (some ⟨g, 0, none⟩) n cap ∧ g < w.heap.size ∧ n ≤ maxLen ∧ ∀ j u, xs[j]? = some u → w.cell? ⟨g, j, none⟩ = some u := by
  obtain ⟨hl, ⟨hv, h0⟩ | ⟨g, cap, cur, hv, hb, hh, h1, h2, h3, h4⟩⟩ := h
  · omega
  · refine ⟨g, cap, hv, (Array.getElem?_eq_some_iff.1 hh).1, by omega, fun j u hj => ?_⟩
    refine (cell_of_row _ _ _ _ _ _ hh).trans ?_
    have hjl := (List.getElem?_eq_some_iff.1 hj).1
    rw [← h4, List.getElem?_take] at hj
    split at hj
    · rw [Array.getElem?_toList] at hj
      exact hj
    · cases hj
theorem own_le {w : World} {base e size n c : Nat} {a : Option Addr} {xs : List Value} (h : w.ownsRow base e size (.slice a n c) n xs) : n ≤ c := by
  obtain ⟨_, ⟨e, h0⟩ | ⟨g', cap', cur, e, hb, hh, hc, hm, _⟩⟩ := h
  · injection e with _ e1 e2
    omega
  · injection e with _ _ e
    omega
theorem news1 (w : World) (v : Value) (t : TypeId) : ∀ (j : Nat) (u : Value), [v][j]? = some u → (w.alloc (.cells #[v] t)).cell? ((⟨w.heap.size, 0, none⟩ : Addr).add j) = some u := by
  intro j u hj
  have hj0 := (List.getElem?_eq_some_iff.1 hj).1
  obtain rfl : j = 0 := by simpa using hj0
  injection hj with hj
  subst hj
  rw [Addr.add_mid]
  exact (cell_of_row _ _ _ _ _ _ (heap_alloc_new w _)).trans rfl
theorem bx_made (w : World) (o p : Obj) : ((w.alloc o).alloc p).heap[w.heap.size]? = some o := 
  ((((Only.refl (fun _ => False) (w.alloc o)).alloc p).block w.heap.size (by simp) (fun h => h))).trans (heap_alloc_new _ _)
theorem grow_keep {w w' : World} {b : Nat} (h : w.grownBy w' (some b)) : ∀ g o, w.heap[g]? = some o → g ≠ b → w'.heap[g]? = some o := fun g o hg hn => by
  have ho : Only (· = b) w w' := (Only.refl (· = b) w).grown h (fun k h => by injection h with h; exact h.symm)
  exact (ho.block g (Array.getElem?_eq_some_iff.1 hg).1 hn).trans hg
theorem grow_only {W w w' : World} {b : Nat} (ho : Only (fun _ => False) W w) (hb : W.heap.size ≤ b) (h : w.grownBy w' (some b)) : Only (fun _ => False) W w' := by
  have h1 : Only (· = b) w w' := (Only.refl (· = b) w).grown h (fun k h => by injection h with h; exact h.symm)
  have h2 : Only (· = b) W w' := (ho.mono (fun _ h => h.elim)).trans h1
  exact ⟨h2.os, h2.tape, h2.output, h2.size, fun g hg _ => h2.block g hg (by omega)⟩
/-- numbers as cells. -/
def nums (l : List Nat) : Array Value := (l.map (fun (x : Nat) => Value.int .i64 (x : Int))).toArray
theorem nums_size (l : List Nat) : (nums l).size = l.length := by simp [nums]
theorem nums_at (l : List Nat) (i : Nat) : (nums l)[i]? = l[i]?.map (fun (x : Nat) => Value.int .i64 (x : Int)) := by simp [nums]
theorem nums_set (l : List Nat) (i x : Nat) : (nums l).setIfInBounds i (.int .i64 (x : Int)) = nums (l.set i x) := by
  apply Array.ext_getElem?
  intro j
  rw [nums_at, Array.getElem?_setIfInBounds, nums_size, List.getElem?_set, nums_at]
  split
  · split
    · rfl
    · rfl
  · rfl
theorem cell_num {w : World} {b i x : Nat} {l : List Nat} {t : TypeId} (h : w.heap[b]? = some (.cells (nums l) t (0, 0))) (hx : l[i]? = some x) : w.cell? ⟨b, i, none⟩ = some (.int .i64 (x : Int)) := by
  rw [cell_blk h, nums_at, hx]
  rfl
/-- a row of numbers, whole, in a block. -/
def Nb (w : World) (b : Nat) (l : List Nat) : Prop := w.heap[b]? = some (.cells (nums l) 3 (0, 0))
theorem Nb.set {w : World} {b : Nat} {l : List Nat} (h : Nb w b l) (i x : Nat) : Nb (w.setCell ⟨b, i, none⟩ (.int .i64 (x : Int))) b (l.set i x) := by
  unfold Nb
  rw [heap_setCell_at h, nums_set]
theorem Nb.off {w : World} {b c : Nat} {l : List Nat} (h : Nb w b l) (hn : b ≠ c) (i : Nat) (v : Value) : Nb (w.setCell ⟨c, i, none⟩ v) b l := (Below.heap_setCell _ _ _ _ hn).trans h
theorem Nb.lt {w : World} {b : Nat} {l : List Nat} (h : Nb w b l) : b < w.heap.size := (Array.getElem?_eq_some_iff.1 h).1
theorem Nb.only {S : Nat → Prop} {w w' : World} {b : Nat} {l : List Nat} (h : Nb w b l) (ho : Only S w w') (hS : ¬ S b) : Nb w' b l := (ho.block b h.lt hS).trans h
theorem Nb.cell {w : World} {b i x : Nat} {l : List Nat} (h : Nb w b l) (hx : l[i]? = some x) : w.cell? ⟨b, i, none⟩ = some (.int .i64 (x : Int)) := cell_num h hx
theorem Nb.fz {w : World} {b : Nat} {l : List Nat} (h : Nb w b l) (i : Nat) : w.frozen? ⟨b, i, none⟩ = false := fz_blk h i
theorem own_own {w : World} {base e size n q : Nat} {v : Value} {xs : List Value} (h : w.ownsRow base e size v n xs) (hq : v.ownBlock = some q) : base ≤ q ∧ ∃ cur, w.heap[q]? = some (.cells cur e (0, 0)) := by
  obtain ⟨hl, ⟨hv, h0⟩ | ⟨g, cap, cur, hv, h1, h2, _⟩⟩ := h
  · rw [hv] at hq; cases hq
  · rw [hv] at hq
    injection hq with hq
    subst hq
    exact ⟨h1, cur, h2⟩
theorem own_stay {S : Nat → Prop} {w w' : World} {base e size n : Nat} {v : Value} {xs : List Value} (h : w.ownsRow base e size v n xs) (ho : Only S w w') (hS : ∀ q, v.ownBlock = some q → ¬ S q) : w'.ownsRow base e size v n xs := by
  obtain ⟨hl, h | ⟨g, cap, cur, hv, h1, h2, h3⟩⟩ := h
  · exact ⟨hl, Or.inl h⟩
  · exact ⟨hl, Or.inr ⟨g, cap, cur, hv, h1, (ho.block g (Array.getElem?_eq_some_iff.1 h2).1 (hS g (by rw [hv]; rfl))).trans h2, h3⟩⟩
/-- a row of n values. -/
def rowOf (n : Nat) (vs : Nat → Value) : Array Value := ((List.range n).map vs).toArray
theorem rowOf_at {n i : Nat} (vs : Nat → Value) (h : i < n) : (rowOf n vs)[i]? = some (vs i) := by
  unfold rowOf
  rw [List.getElem?_toArray, List.getElem?_map, List.getElem?_range h]
  rfl
theorem rowOf_size (n : Nat) (vs : Nat → Value) : (rowOf n vs).size = n := by simp [rowOf]
theorem rowOf_set {n i : Nat} (vs : Nat → Value) (v : Value) : (rowOf n vs).setIfInBounds i v = rowOf n (fun j => if j = i then v else vs j) := by
  apply Array.ext_getElem?
  intro j
  rw [Array.getElem?_setIfInBounds, rowOf_size]
  by_cases hj : j < n
  · rw [rowOf_at _ hj, rowOf_at _ hj]
    by_cases e : i = j
    · subst e; simp [hj]
    · rw [if_neg e, if_neg (fun h => e h.symm)]
  · have e1 : (rowOf n vs)[j]? = none := Array.getElem?_eq_none (by rw [rowOf_size]; omega)
    have e2 : (rowOf n (fun j => if j = i then v else vs j))[j]? = none := Array.getElem?_eq_none (by rw [rowOf_size]; omega)
    rw [e1, e2]
    split
    · rename_i e; subst e; rw [if_neg hj]
    · rfl
def natI (L : List Nat) : List Value := L.map fun (x : Nat) => .int .i64 (x : Int)
def u32V (n : Nat) : Value := .int .u32 (n : Int)
theorem nums_list (L : List Nat) : (nums L).toList = natI L := by simp [nums, natI]
theorem natI_len (L : List Nat) : (natI L).length = L.length := by simp [natI]
theorem natI_snoc (L : List Nat) (x : Nat) : natI (L ++ [x]) = natI L ++ [.int .i64 (x : Int)] := by simp [natI]
theorem own_ne {w : World} {base e size n b : Nat} {v : Value} {xs : List Value} {cs : Array Value} {t : TypeId} (h : w.ownsRow base e size v n xs) (hb : w.heap[b]? = some (.cells cs t (0, 0))) (ht : t ≠ e) : v.ownBlock ≠ some b := fun hq => by
  obtain ⟨_, cur, hc⟩ := own_own h hq
  rw [hb] at hc
  injection hc with hc
  injection hc with _ hc
  exact ht hc
theorem own_ne2 {w : World} {base e size n base' e' size' n' q : Nat} {v v' : Value} {xs xs' : List Value} (h : w.ownsRow base e size v n xs) (h' : w.ownsRow base' e' size' v' n' xs') (ht : e' ≠ e) (hq : v'.ownBlock = some q) : v.ownBlock ≠ some q := by
  obtain ⟨_, cur, hc⟩ := own_own h' hq
  exact own_ne h hc ht
theorem own_lt {w : World} {base e size n q : Nat} {v : Value} {xs : List Value} (h : w.ownsRow base e size v n xs) (hq : v.ownBlock = some q) : q < w.heap.size := by
  obtain ⟨_, cur, hc⟩ := own_own h hq
  exact (Array.getElem?_eq_some_iff.1 hc).1
theorem snocV_at {vs : List Value} {v r : Value} {i : Nat} (h : (vs ++ [v])[i]? = some r) : vs[i]? = some r ∨ (i = vs.length ∧ r = v) := by
  by_cases hi : i < vs.length
  · rw [List.getElem?_append_left hi] at h
    exact Or.inl h
  · rw [List.getElem?_append_right (by omega)] at h
    have := (List.getElem?_eq_some_iff.1 h).1
    simp at this
    have e : i = vs.length := by omega
    subst e
    rw [Nat.sub_self] at h
    injection h with h
    exact Or.inr ⟨rfl, h.symm⟩
theorem keep0 {w w' : World} {b k : Nat} {v : Value} (h : Only (fun _ => False) w w') (hc : w.cell? ⟨b, k, none⟩ = some v) : w'.cell? ⟨b, k, none⟩ = some v := (World.cell?_of_block (a := ⟨b, k, none⟩) (h.block b (World.block_lt_of_cell? w _ hc) (fun h => h))).trans hc
theorem own_drewN {w : World} {base e size n : Nat} {v : Value} {xs : List Value} (h : w.ownsRow base e size v n xs) (m : Nat) : (w.drewN m).ownsRow base e size v n xs := own_only h ((Only.refl (fun _ => False) w).drewN m) (fun _ _ h => h)
theorem heap_alloc2_new (w : World) (o p : Obj) : ((w.alloc o).alloc p).heap[w.heap.size + 1]? = some p := by
  have := heap_alloc_new (w.alloc o) p
  rw [show (w.alloc o).heap.size = w.heap.size + 1 by simp] at this
  exact this
theorem natI_at {w : World} {base n : Nat} {v : Value} {l : List Nat} (h : w.ownsRow base 3 1 v n (natI l)) (hn : n = l.length) {k x : Nat} (hk : l[k]? = some x) : ∃ g cap, v = .slice (some ⟨g, 0, none⟩) n cap ∧ w.cell? ⟨g, k, none⟩ = some (.int .i64 (x : Int)) := by
  have hlt : k < l.length := (List.getElem?_eq_some_iff.1 hk).1
  obtain ⟨g, cap, hv, _, _, _, hc⟩ := row_form h (by omega)
  refine ⟨g, cap, hv, ?_⟩
  rw [hc k (by omega)]
  unfold natI
  rw [List.getElem?_map, hk]; rfl
theorem own_max {w : World} {base e size n : Nat} {v : Value} {xs : List Value} (h : w.ownsRow base e size v n xs) : n ≤ maxLen := by
  obtain ⟨_, ⟨_, h0⟩ | ⟨g, cap, cur, _, _, _, h1, h2, _⟩⟩ := h
  · rw [h0]; exact Nat.zero_le _
  · exact Nat.le_trans h1 h2
end Go.Proofs.Ytegoadhnilmchaa
