/-
  Lists of patterns, appended to a list of the call's own, in a region that draws its order.
-/
import Derived.Test.YtjgbfpemkjpikaaDoorAw
import Derived.Test.YtjgbfpemkjpikaaDoorR6
import Derived.Test.YtjgbfpemkjpikaaDoorJn
import Derived.Deep.Upon
import Derived.Maps.AppendAt
namespace Go.Proofs.YtjgbfpemkjpikaaDoor
open Go.RowKit Go.Maps Go.Deep
set_option linter.unusedVariables false
set_option linter.unusedSimpArgs false
/-- cells that lie in memory. -/
def Cw (w : World) (a : Option Addr) (m : Nat) (C : List Value) : Prop := C.length = m * 2 ∧ (0 < m → ∃ b off, a = some ⟨b, off, none⟩ ∧ b < w.heap.size ∧ ∀ j u, C[j]? = some u → w.cell? ⟨b, off + j, none⟩ = some u) ∧ ∀ u ∈ C, u.oneCell' = true
theorem Cw.keep {w w' : World} {a : Option Addr} {m : Nat} {C : List Value} (h : Cw w a m C) (ho : Only (fun _ => False) w w') : Cw w' a m C := by
  obtain ⟨h1, h2, h3⟩ := h
  refine ⟨h1, fun hm => ?_, h3⟩
  obtain ⟨b, off, e, hb, hc⟩ := h2 hm
  exact ⟨b, off, e, Nat.lt_of_lt_of_le hb ho.size, fun j u hj => (World.cell?_of_block (a := ⟨b, off + j, none⟩) (ho.block b hb (fun h => h))).trans (hc j u hj)⟩
/-- cells that are patterns. -/
def Pc (w : World) (C : List Value) (P : List Pt.Pat) : Prop := C.length = P.length * 2 ∧ ∀ (j : Nat) (p : Pt.Pat), P[j]? = some p → ∃ x y, C[j * 2]? = some x ∧ C[j * 2 + 1]? = some y ∧ P2 w p x y
theorem Pc.keep {w w' : World} {C : List Value} {P : List Pt.Pat} (h : Pc w C P) (ho : Only (fun _ => False) w w') : Pc w' C P :=
  ⟨h.1, fun j p hj => by obtain ⟨x, y, h1, h2, h3⟩ := h.2 j p hj; exact ⟨x, y, h1, h2, h3.keep ho⟩⟩
theorem Pc.app {w : World} {C D : List Value} {P Q : List Pt.Pat} (h : Pc w C P) (k : Pc w D Q) : Pc w (C ++ D) (P ++ Q) := by
  refine ⟨by rw [List.length_append, List.length_append, h.1, k.1]; omega, fun j p hj => ?_⟩
  by_cases hl : j < P.length
  · rw [List.getElem?_append_left hl] at hj
    obtain ⟨x, y, h1, h2, h3⟩ := h.2 j p hj
    have := h.1
    exact ⟨x, y, by rw [List.getElem?_append_left (by omega)]; exact h1, by rw [List.getElem?_append_left (by omega)]; exact h2, h3⟩
  · rw [List.getElem?_append_right (by omega)] at hj
    obtain ⟨x, y, h1, h2, h3⟩ := k.2 _ p hj
    have := h.1
    refine ⟨x, y, ?_, ?_, h3⟩
    · rw [List.getElem?_append_right (by omega), show j * 2 - C.length = (j - P.length) * 2 by omega]; exact h1
    · rw [List.getElem?_append_right (by omega), show j * 2 + 1 - C.length = (j - P.length) * 2 + 1 by omega]; exact h2
theorem two_split : ∀ (n : Nat) (f : Nat → Value), ∃ C : List Value, C.length = n ∧ ∀ j, j < n → C[j]? = some (f j)
  | n, f => ⟨(List.range n).map f, by simp, fun j hj => by simp [hj]⟩
/-- a list of patterns in memory, as cells. -/
theorem pw_cells {w : World} {a : Option Addr} {n : Nat} {P : List Pt.Pat} (h : Pw w a n P) : ∃ C, Cw w a n C ∧ Pc w C P := by
  obtain ⟨hl, b, off, h1, h2⟩ := h
  obtain ⟨C, hC, hCj⟩ := two_split (n * 2) (fun j => (w.cell? ⟨b, off + j, none⟩).getD (.bool false))
  have key : ∀ j p, P[j]? = some p → ∃ x y, C[j * 2]? = some x ∧ C[j * 2 + 1]? = some y ∧ w.cell? ⟨b, off + j * 2, none⟩ = some x ∧ w.cell? ⟨b, off + j * 2 + 1, none⟩ = some y ∧ P2 w p x y := fun j p hj => by
    have hjl := (List.getElem?_eq_some_iff.1 hj).1
    obtain ⟨x, y, c0, c1, hp⟩ := h2 j p hj
    refine ⟨x, y, ?_, ?_, c0, c1, hp⟩
    · rw [hCj _ (by omega), c0]; rfl
    · rw [hCj _ (by omega), show off + (j * 2 + 1) = off + j * 2 + 1 by omega, c1]; rfl
  have each : ∀ k u, C[k]? = some u → w.cell? ⟨b, off + k, none⟩ = some u ∧ u.oneCell' = true := fun k u hk => by
    have hkl := (List.getElem?_eq_some_iff.1 hk).1
    obtain ⟨p, hp⟩ : ∃ p, P[k / 2]? = some p := ⟨_, List.getElem?_eq_getElem (by omega)⟩
    obtain ⟨x, y, k0, k1, c0, c1, q⟩ := key _ p hp
    obtain ⟨aL, cL, aV, cV, rfl, rfl, _⟩ := q
    rcases (by omega : k = k / 2 * 2 ∨ k = k / 2 * 2 + 1) with e | e
    · rw [← e] at k0 c0
      rw [k0] at hk
      injection hk with hk
      subst hk
      exact ⟨c0, rfl⟩
    · rw [← e] at k1
      rw [show off + k / 2 * 2 + 1 = off + k by omega] at c1
      rw [k1] at hk
      injection hk with hk
      subst hk
      exact ⟨c1, rfl⟩
  refine ⟨C, ⟨hC, fun hn => ?_, fun u hu => ?_⟩, by rw [hC, hl], fun j p hj => ?_⟩
  · obtain ⟨e, hb⟩ := h1 hn
    exact ⟨b, off, e, hb, fun j u hj => (each j u hj).1⟩
  · obtain ⟨j, hj⟩ := List.getElem?_of_mem hu
    exact (each j u hj).2
  · obtain ⟨x, y, k0, k1, _, _, q⟩ := key j p hj
    exact ⟨x, y, k0, k1, q⟩
theorem own_pw {w : World} {base n c : Nat} {a : Option Addr} {C : List Value} {P : List Pt.Pat} (h : w.ownsRow base 37 2 (.slice a n c) n C) (hc : Pc w C P) (hn : P.length = n) : Pw w a n P := by
  refine ⟨hn, ?_⟩
  by_cases h0 : n = 0
  · refine ⟨0, 0, fun h => by omega, fun j p hj => ?_⟩
    have := (List.getElem?_eq_some_iff.1 hj).1
    omega
  · obtain ⟨g, cap, hv, _, hlt, _, hcc⟩ := row_form h (by omega)
    injection hv with hv
    refine ⟨g, 0, fun _ => ⟨hv, hlt⟩, fun j p hj => ?_⟩
    have hjl := (List.getElem?_eq_some_iff.1 hj).1
    obtain ⟨x, y, k0, k1, q⟩ := hc.2 j p hj
    exact ⟨x, y, (by rw [Nat.zero_add, hcc _ (by omega)]; exact k0), (by rw [Nat.zero_add, hcc _ (by omega)]; exact k1), q⟩
theorem src_none (w : World) (a : Option Addr) (c : Nat) {i : TypeInfo} (hs : i.size = 2) : Src Tryd.prog i.size 26 (.slice a 0 c) 0 [] w := by
  refine ⟨Or.inl ⟨37, Tryd.underlying26⟩, fun w' => ?_, ?_, ?_, by simp, fun u h => by cases h⟩
  · simp [Builtin.lenOf]
  · cases a <;> simp [Builtin.firstCells, loadCells, loadCellsFrom]
  · cases a <;> simp [Builtin.firstCells, loadCells, loadCellsFrom]
theorem step_app2 {ops : Array Oper} {o : Oper} {a : Act} {w : World} {K : Act → World → Prop} {Q : Exit → Act → World → Prop} {E : Prop} (hw : Region.wanted o (yielded ops a.tmps) = true) (s x : Operand)
    (ho : o.op = .call { callee := .builtin .append, args := #[s, x], argTypes := #[26, 26] }) (W0 : World) (hW0 : Only (fun _ => False) W0 w)
    (g0 n c0 : Nat) (xs : List Value) (hs : a.eval s = .slice (some ⟨g0, 0, none⟩) n c0) (hown : w.ownsRow W0.heap.size 37 2 (.slice (some ⟨g0, 0, none⟩) n c0) n xs)
    (aX : Option Addr) (m c : Nat) (C : List Value) (hx : a.eval x = .slice aX m c) (hC : Cw w aX m C) (N : Nat) (hN : n + m = N) (hsz : N ≤ 1000)
    (h : ∀ g cap w', w'.ownsRow W0.heap.size 37 2 (.slice (some ⟨g, 0, none⟩) N cap) N (xs ++ C) → Only (fun _ => False) W0 w' → K (a.put o.dst (.slice (some ⟨g, 0, none⟩) N cap)) w') :
    if Region.wanted o (yielded ops a.tmps) = true then Oper.wp Tryd.prog o a w K Q else E := by
  rw [if_pos hw]
  subst hN
  obtain ⟨i7, g7, g70, g71, g72⟩ := info_parts info37
  obtain ⟨hl, hnews, h1⟩ := hC
  by_cases hm : m = 0
  · subst hm
    have hr := run_append_nothing (P := Tryd.prog) w 26 26 o.type 37 i7 Tryd.underlying26 g7 (some ⟨g0, 0, none⟩) n c0 (own_le hown) (.slice aX 0 c) (src_none w aX c g71)
    obtain rfl : C = [] := List.eq_nil_of_length_eq_zero (by omega)
    unfold Oper.wp execOp
    simp only [ho, resolve, invoke, builtin, Sem.run_bind, Sem.run_pure, Result.andThen_ok, List.map_toArray, List.map_cons, List.map_nil, hs, hx, hr]
    exact h g0 c0 w (by simpa using hown) hW0
  · obtain ⟨b, off, rfl, hb, hcc⟩ := hnews (by omega)
    obtain ⟨v', w', hr, h2, h3, h4, h5⟩ := run_append_own_at (P := Tryd.prog) (w := w) W0.heap.size 26 o.type 37 i7 _ 2 48 Tryd.underlying26 g7 g70 g71 g72 rfl (by decide) _ n xs hown ⟨b, off, none⟩ m c C hl (fun j u hj => by rw [Addr.add_mid]; exact hcc j u hj) h1 (by unfold maxLen; omega) (by omega) hW0.size
    obtain ⟨g, cap, rfl, hg1, hg2, hg3⟩ := own_addr h2 (fun e => by have := (h4.1 e).1; cases this)
    unfold Oper.wp execOp
    simp only [ho, resolve, invoke, builtin, Sem.run_bind, Sem.run_pure, Result.andThen_ok, List.map_toArray, List.map_cons, List.map_nil, hs, hx, hr]
    obtain ⟨_, _, hv0, hb0, _⟩ := own_addr hown (fun e => by cases e)
    injection hv0 with hv0
    injection hv0 with hv0
    injection hv0 with hv0
    subst hv0
    exact h g cap w' h2 (grow_only hW0 hb0 h3)
theorem own_p0 {w : World} {base g : Nat} (h : w.heap[g]? = some (.cells #[] 37 (0, 0))) (hb : base ≤ g) : w.ownsRow base 37 2 (.slice (some ⟨g, 0, none⟩) 0 0) 0 [] :=
  ⟨rfl, Or.inr ⟨g, 0, #[], rfl, hb, h, Nat.le_refl _, Nat.zero_le _, rfl, rfl⟩⟩
end Go.Proofs.YtjgbfpemkjpikaaDoor
