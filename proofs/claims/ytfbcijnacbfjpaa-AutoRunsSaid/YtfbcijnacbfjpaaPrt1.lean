/-
  The open frames, as a list in memory.
-/
import Derived.Test.YtfbcijnacbfjpaaPrt0
import Derived.Maps.AppendAt
namespace Go.Proofs.Ytfbcijnacbfjpaa
open Go.RowKit Go.Maps
set_option linter.unusedVariables false
set_option linter.unusedSimpArgs false
open Rl (Ex)
/-- a frame, and where its kids lie. -/
structure Fm where
  f : Au.Fr
  a : Option Addr
  c : Nat
def fmA (m : Fm) : Array Value := fmC m.f.op m.a m.f.left.length m.c m.f.nd
def flat : List Fm → List Value
  | [] => []
  | m :: L => (fmA m).toList ++ flat L
theorem fmA_size (m : Fm) : (fmA m).size = 11 := rfl
theorem flat_len : ∀ (L : List Fm), (flat L).length = L.length * 11
  | [] => rfl
  | m :: L => by
    rw [flat, List.length_append, flat_len L, Array.length_toList, fmA_size, List.length_cons]
    omega
theorem flat_snoc : ∀ (L : List Fm) (m : Fm), flat (L ++ [m]) = flat L ++ (fmA m).toList
  | [], m => by simp [flat]
  | x :: L, m => by rw [List.cons_append, flat, flat_snoc L m, flat, List.append_assoc]
theorem flat_at : ∀ (L : List Fm) (i k : Nat) (m : Fm), L[i]? = some m → k < 11 → (flat L)[11 * i + k]? = (fmA m)[k]?
  | x :: L, 0, k, m, h, hk => by
    injection h with h
    subst h
    rw [flat, Nat.mul_zero, Nat.zero_add, List.getElem?_append_left (by rw [Array.length_toList, fmA_size]; exact hk), Array.getElem?_toList]
  | x :: L, i + 1, k, m, h, hk => by
    rw [flat, List.getElem?_append_right (by rw [Array.length_toList, fmA_size]; omega), Array.length_toList, fmA_size, show 11 * (i + 1) + k - 11 = 11 * i + k by omega]
    exact flat_at L i k m (by simpa using h) hk
/-- the open frames: the first one, .., the last one. -/
def Opn (w : World) (base ob cap : Nat) (cur : Array Value) (L : List Fm) : Prop := base ≤ ob ∧ w.heap[ob]? = some (.cells cur 136 (0, 0)) ∧ L.length ≤ cap ∧ cap ≤ maxLen ∧ cur.size = cap * 11 ∧ ∀ i m, L[i]? = some m → HasF cur (11 * i) m.f.op m.a m.f.left.length m.c m.f.nd
theorem Opn.row {w : World} {base ob cap : Nat} {cur : Array Value} {L : List Fm} (h : Opn w base ob cap cur L) : w.ownsRow base 136 11 (.slice (some ⟨ob, 0, none⟩) L.length cap) L.length (flat L) := by
  obtain ⟨h1, h2, h3, h4, h5, h6⟩ := h
  refine ⟨flat_len L, Or.inr ⟨ob, cap, cur, rfl, h1, h2, h3, h4, h5, ?_⟩⟩
  apply List.ext_getElem?
  intro j
  rw [List.getElem?_take]
  by_cases hj : j < L.length * 11
  · rw [if_pos hj]
    have hi : j / 11 < L.length := by omega
    have e : j = 11 * (j / 11) + j % 11 := by omega
    have hm : L[j / 11]? = some L[j / 11] := List.getElem?_eq_getElem hi
    rw [e, flat_at L _ _ _ hm (by omega), Array.getElem?_toList]
    exact h6 _ _ hm (j % 11) (by omega)
  · rw [if_neg hj, List.getElem?_eq_none (by rw [flat_len]; omega)]
theorem Opn.of_row {w : World} {base : Nat} {v : Value} {L : List Fm} (h : w.ownsRow base 136 11 v L.length (flat L)) (hL : 0 < L.length) : ∃ ob cap cur, v = .slice (some ⟨ob, 0, none⟩) L.length cap ∧ Opn w base ob cap cur L := by
  obtain ⟨_, ⟨_, h0⟩ | ⟨g, cap, cur, rfl, h1, h2, h3, h4, h5, h6⟩⟩ := h
  · omega
  · refine ⟨g, cap, cur, rfl, h1, h2, h3, h4, h5, fun i m hm k hk => ?_⟩
    have hi := (List.getElem?_eq_some_iff.1 hm).1
    have : (cur.toList.take (L.length * 11))[11 * i + k]? = (fmA m)[k]? := by rw [h6]; exact flat_at L i k m hm hk
    rw [List.getElem?_take, if_pos (by omega), Array.getElem?_toList] at this
    exact this
theorem Opn.lt {w : World} {base ob cap : Nat} {cur : Array Value} {L : List Fm} (h : Opn w base ob cap cur L) : ob < w.heap.size := (Array.getElem?_eq_some_iff.1 h.2.1).1
theorem Opn.only {w w' : World} {base ob cap : Nat} {cur : Array Value} {L : List Fm} {P : Nat → Prop} (h : Opn w base ob cap cur L) (ho : Only P w w') (hn : ¬ P ob) : Opn w' base ob cap cur L := ⟨h.1, (ho.block ob h.lt hn).trans h.2.1, h.2.2⟩
theorem Opn.fb {w : World} {base ob cap : Nat} {cur : Array Value} {L : List Fm} (h : Opn w base ob cap cur L) {i : Nat} {m : Fm} (hm : L[i]? = some m) : Fb w ob (11 * i) 136 cur m.f.op m.a m.f.left.length m.c m.f.nd := ⟨h.2.1, h.2.2.2.2.2 i m hm⟩
/-- the last one has turned. -/
theorem Opn.set {w w' : World} {base ob cap : Nat} {cur cur' : Array Value} {L : List Fm} {m m' : Fm} (h : Opn w base ob cap cur (L ++ [m])) (hb : w'.heap[ob]? = some (.cells cur' 136 (0, 0))) (hf : HasF cur' (11 * L.length) m'.f.op m'.a m'.f.left.length m'.c m'.f.nd) (hs : Same cur cur' (11 * L.length)) : Opn w' base ob cap cur' (L ++ [m']) := by
  obtain ⟨h1, h2, h3, h4, h5, h6⟩ := h
  refine ⟨h1, hb, by simpa using h3, h4, by rw [hs.1, h5], fun i x hx => ?_⟩
  by_cases hi : i < L.length
  · rw [List.getElem?_append_left hi] at hx
    have := h6 i x (by rw [List.getElem?_append_left hi]; exact hx)
    intro k hk
    rw [hs.2 (11 * i + k) (by omega)]
    exact this k hk
  · have hl := (List.getElem?_eq_some_iff.1 hx).1
    simp only [List.length_append, List.length_singleton] at hl
    obtain rfl : i = L.length := by omega
    rw [List.getElem?_append_right (Nat.le_refl _), Nat.sub_self] at hx
    injection hx with hx
    subst hx
    exact hf
theorem Opn.pop {w : World} {base ob cap : Nat} {cur : Array Value} {L : List Fm} {m : Fm} (h : Opn w base ob cap cur (L ++ [m])) : Opn w base ob cap cur L := by
  obtain ⟨h1, h2, h3, h4, h5, h6⟩ := h
  refine ⟨h1, h2, by simp at h3; omega, h4, h5, fun i x hx => h6 i x ?_⟩
  rw [List.getElem?_append_left (List.getElem?_eq_some_iff.1 hx).1]
  exact hx
theorem foldl_zip : ∀ (l : List Value) (k : Nat) (cs : Array Value), k + l.length ≤ cs.size → ∀ i, ((l.zipIdx k).foldl (fun cs p => cs.setIfInBounds (0 + p.2) p.1) cs)[i]? = if k ≤ i ∧ i < k + l.length then l[i - k]? else cs[i]?
  | [], k, cs, h, i => by simp; omega
  | x :: l, k, cs, h, i => by
    rw [List.zipIdx_cons, List.foldl_cons, foldl_zip l (k + 1) _ (by simp at h ⊢; omega) i]
    simp only [List.length_cons] at h ⊢
    by_cases h1 : k + 1 ≤ i ∧ i < k + 1 + l.length
    · rw [if_pos h1, if_pos (by omega), show i - k = (i - (k + 1)) + 1 by omega, List.getElem?_cons_succ]
    · rw [if_neg h1, Array.getElem?_setIfInBounds]
      by_cases h2 : k = i
      · subst h2
        simp
        omega
      · rw [if_neg (by omega), if_neg (by omega)]
/-- one value of many cells fills a list of one. -/
theorem fill_one {a : Act} {z X : Array Value} {s n : Nat} (hs : s = n) (hX : X.size = n) (hz : z.size = n) (hn : 0 < n) {x : Operand} (hx : a.eval x = .agg X := by rfl) :
    Instr.fill (fun i => some (i * s, s)) ((Array.range (1 * s)).map ((Value.agg z).cells[· % (Value.agg z).cells.size]!)) (#[(0, x)].map fun p => (p.1, a.eval p.2)).toList = some X := by
  subst hs
  have e : (#[(0, x)].map fun p : Nat × Operand => (p.1, a.eval p.2)).toList = [(0, .agg X)] := by simp [hx]
  rw [e]
  unfold Instr.fill
  simp only
  rw [if_neg (by show ¬ ((decide (X.size ≠ s) || decide (0 * s + X.size > _)) = true); rw [hX]; simp)]
  unfold Instr.fill
  congr 1
  apply Array.ext_getElem?
  intro i
  have := foldl_zip X.toList 0 ((Array.range (1 * s)).map ((Value.agg z).cells[· % (Value.agg z).cells.size]!)) (by rw [Array.length_toList, hX]; simp) i
  rw [Array.length_toList, hX] at this
  show (Array.foldl _ _ X.zipIdx)[i]? = _
  rw [← Array.foldl_toList, Array.toList_zipIdx]
  simp only [Nat.zero_mul]
  refine this.trans ?_
  by_cases hi : i < s
  · rw [if_pos (by omega)]
    simp
  · rw [if_neg (by omega), Array.getElem?_eq_none (by simp; omega), Array.getElem?_eq_none (by rw [hX]; omega)]
theorem info136 : (Try.prog.info? 136).map (fun i => (i.zero, i.size, i.bytes)) = some (some (.agg #[.int .u8 0, .slice none 0 0, .bool false, .int .u64 0, .int .u64 0, .int .u64 0, .int .u64 0, .int .u64 0, .int .u64 0, .int .u64 0, .int .u64 0]), 11, 104) := by kernel_rfl
/-- one more frame. -/
theorem Opn.push {w w' : World} {base ob cap : Nat} {cur : Array Value} {L : List Fm} {m : Fm} {v : Value} (h : w'.ownsRow base 136 11 v (L.length + 1) (flat L ++ (fmA m).toList)) : ∃ ob cap cur, v = .slice (some ⟨ob, 0, none⟩) (L.length + 1) cap ∧ Opn w' base ob cap cur (L ++ [m]) := by
  rw [← flat_snoc] at h
  have e : (L ++ [m]).length = L.length + 1 := by simp
  rw [← e] at h ⊢
  exact Opn.of_row h (by omega)
end Go.Proofs.Ytfbcijnacbfjpaa
