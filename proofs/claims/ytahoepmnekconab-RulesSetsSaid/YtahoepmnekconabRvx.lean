/-
  Rules in memory, as a value.
-/
import Derived.Test.YtahoepmnekconabLines3
import Derived.Test.YtahoepmnekconabCatch
namespace Go.Proofs.Ytahoepmnekconab
open Go.RowKit Go.Maps
set_option linter.unusedVariables false
set_option linter.unusedSimpArgs false
theorem alloc_size (w : World) (o : Obj) : (w.alloc o).heap.size = w.heap.size + 1 := by simp
/-- rules in memory, as a value. -/
def Rv (w : World) (B : Nat) (v : Value) (s : Rl.St) : Prop := ∃ (aC aT aL : Option Addr) (cC cT cL : Nat), v = .agg #[.slice aC s.cls.length cC, .int .u32 s.join, .int .u32 s.after, .slice aT s.treat.length cT, .slice aL s.list.length cL] ∧ w.ownsRow B 9 1 (.slice aC s.cls.length cC) s.cls.length (strs s.cls) ∧ w.ownsRow B 3 1 (.slice aT s.treat.length cT) s.treat.length (ints s.treat) ∧ Rls w B (.slice aL s.list.length cL) s.list ∧ s.treat.length = s.cls.length ∧ s.cls.length ≤ 24 ∧ s.list.length ≤ 24
def noRules : Value := .agg #[.slice none 0 0, .int .u32 0, .int .u32 0, .slice none 0 0, .slice none 0 0]
theorem info37 : (Try.prog.info? 30).map (·.size) = some 5 := by kernel_rfl
theorem Rv.only {w w' : World} {B : Nat} {v : Value} {s : Rl.St} {P : Nat → Prop} (h : Rv w B v s) (ho : Only P w w') (hP : ∀ g, B ≤ g → ¬ P g) : Rv w' B v s := by
  obtain ⟨aC, aT, aL, cC, cT, cL, h1, h2, h3, h4, h5⟩ := h
  exact ⟨aC, aT, aL, cC, cT, cL, h1, own_only h2 ho hP, own_only h3 ho hP, h4.only ho hP, h5⟩
def set5 (w : World) (z : Nat) (a b c d e : Value) : World := ((((w.setCell ⟨z, 0, none⟩ a).setCell ⟨z, 1, none⟩ b).setCell ⟨z, 2, none⟩ c).setCell ⟨z, 3, none⟩ d).setCell ⟨z, 4, none⟩ e
theorem set5_at {w : World} {z : Nat} {v0 v1 v2 v3 v4 : Value} {t : TypeId} (h : w.heap[z]? = some (.cells #[v0, v1, v2, v3, v4] t (0, 0))) (a b c d e : Value) : (set5 w z a b c d e).heap[z]? = some (.cells #[a, b, c, d, e] t (0, 0)) := heap_setCell_at (heap_setCell_at (heap_setCell_at (heap_setCell_at (heap_setCell_at h a) b) c) d) e
theorem set5_only (w : World) (z : Nat) (a b c d e : Value) : Only (· = z) w (set5 w z a b c d e) := (((((Only.refl (· = z) w).setCell (p := ⟨z, 0, none⟩) rfl a).setCell (p := ⟨z, 1, none⟩) rfl b).setCell (p := ⟨z, 2, none⟩) rfl c).setCell (p := ⟨z, 3, none⟩) rfl d).setCell (p := ⟨z, 4, none⟩) rfl e
theorem Only.newAt {w w' : World} (h : Only (fun b => b = w.heap.size) w w') : Only (fun _ => False) w w' := ⟨h.os, h.tape, h.output, h.size, fun g hg _ => h.block g hg (by omega)⟩
set_option linter.unusedVariables false
set_option linter.unusedSimpArgs false
theorem Rcs.get {w : World} {F : Nat → Prop} : ∀ (rs : List Rl.Rule) (c : Nat → Option Value) (i : Nat) (r : Rl.Rule), Rcs w F rs c → rs[i]? = some r → ∃ op st a n cap op' st' a' n' cap', c (7 * i) = some (.int .u8 r.does) ∧ c (7 * i + 1) = some (.int .u8 op) ∧ c (7 * i + 2) = some (.int .u32 st) ∧ c (7 * i + 3) = some (.slice a n cap) ∧ Tr w F r.left (.agg #[.int .u8 op, .int .u32 st, .slice a n cap]) ∧ c (7 * i + 4) = some (.int .u8 op') ∧ c (7 * i + 5) = some (.int .u32 st') ∧ c (7 * i + 6) = some (.slice a' n' cap') ∧ Tr w F r.right (.agg #[.int .u8 op', .int .u32 st', .slice a' n' cap'])
  | [], _, i, _, _, h => by simp at h
  | r0 :: rs, c, 0, r, ht, h => by
    simp at h
    subst h
    obtain ⟨⟨h0, ⟨o, s, k, h1, h2, h3, h4⟩, ⟨o', s', k', h5, h6, h7, h8⟩⟩, _⟩ := ht
    obtain ⟨op, st, a, n, cap, hf⟩ := h4.form
    obtain ⟨op', st', a', n', cap', hf'⟩ := h8.form
    simp only [Value.agg.injEq, Array.mk.injEq, List.cons.injEq, and_true] at hf hf'
    obtain ⟨rfl, rfl, rfl⟩ := hf
    obtain ⟨rfl, rfl, rfl⟩ := hf'
    exact ⟨op, st, a, n, cap, op', st', a', n', cap', h0, h1, h2, h3, h4, h5, h6, h7, h8⟩
  | r0 :: rs, c, i + 1, r, ht, h => Rcs.get rs _ i r ht.2 (by simpa using h)
theorem Rls.get {w : World} {B : Nat} {a : Option Addr} {c : Nat} {l : List Rl.Rule} (h : Rls w B (.slice a l.length c) l) {i : Nat} {r : Rl.Rule} (hi : l[i]? = some r) : ∃ g op st a1 n cap op' st' a1' n' cap', a = some ⟨g, 0, none⟩ ∧ g < w.heap.size ∧ w.cell? ⟨g, i * 7, none⟩ = some (.int .u8 r.does) ∧ w.cell? ⟨g, i * 7 + 1, none⟩ = some (.int .u8 op) ∧ w.cell? ⟨g, i * 7 + 2, none⟩ = some (.int .u32 st) ∧ w.cell? ⟨g, i * 7 + 3, none⟩ = some (.slice a1 n cap) ∧ Tr w (fun b => B ≤ b) r.left (.agg #[.int .u8 op, .int .u32 st, .slice a1 n cap]) ∧ w.cell? ⟨g, i * 7 + 4, none⟩ = some (.int .u8 op') ∧ w.cell? ⟨g, i * 7 + 5, none⟩ = some (.int .u32 st') ∧ w.cell? ⟨g, i * 7 + 6, none⟩ = some (.slice a1' n' cap') ∧ Tr w (fun b => B ≤ b) r.right (.agg #[.int .u8 op', .int .u32 st', .slice a1' n' cap']) := by
  obtain ⟨xs, h1, h2⟩ := h
  have hlt : i < l.length := (List.getElem?_eq_some_iff.1 hi).1
  obtain ⟨g, cap0, hv, _, hg, _, hc⟩ := row_form h1 (by omega)
  obtain ⟨op, st, a1, n, cap, op', st', a1', n', cap', e0, e1, e2, e3, e4, e5, e6, e7, e8⟩ := Rcs.get l _ i r h2 hi
  have ha : a = some ⟨g, 0, none⟩ := by injection hv
  rw [Nat.mul_comm] at e0 e1 e2 e3 e5 e6 e7
  exact ⟨g, op, st, a1, n, cap, op', st', a1', n', cap', ha, hg, (hc _ (by omega)).trans e0, (hc _ (by omega)).trans e1, (hc _ (by omega)).trans e2, (hc _ (by omega)).trans e3, e4, (hc _ (by omega)).trans e5, (hc _ (by omega)).trans e6, (hc _ (by omega)).trans e7, e8⟩
def Xr (w : World) (b : Nat) (v0 v1 v2 v3 v4 : Value) : Prop := w.heap[b]? = some (.cells #[v0, v1, v2, v3, v4] 30 (0, 0))
section
variable {w w' : World} {b : Nat} {v0 v1 v2 v3 v4 : Value}
theorem Xr.only {P : Nat → Prop} (h : Xr w b v0 v1 v2 v3 v4) (ho : Only P w w') (hn : ¬ P b) : Xr w' b v0 v1 v2 v3 v4 := (ho.block b (Array.getElem?_eq_some_iff.1 h).1 hn).trans h
theorem Xr.new (w : World) (v0 v1 v2 v3 v4 : Value) : Xr (w.alloc (.cells #[v0, v1, v2, v3, v4] 30)) w.heap.size v0 v1 v2 v3 v4 := heap_alloc_new _ _
theorem Xr.alloc (h : Xr w b v0 v1 v2 v3 v4) (o : Obj) : Xr (w.alloc o) b v0 v1 v2 v3 v4 := (Below.heap_alloc _ _ _ (Array.getElem?_eq_some_iff.1 h).1).trans h
theorem Xr.c0 (h : Xr w b v0 v1 v2 v3 v4) : w.cell? ⟨b, 0, none⟩ = some v0 := (cell_of_row _ _ _ _ _ _ h).trans rfl
theorem Xr.c1 (h : Xr w b v0 v1 v2 v3 v4) : w.cell? ⟨b, 1, none⟩ = some v1 := (cell_of_row _ _ _ _ _ _ h).trans rfl
theorem Xr.c2 (h : Xr w b v0 v1 v2 v3 v4) : w.cell? ⟨b, 2, none⟩ = some v2 := (cell_of_row _ _ _ _ _ _ h).trans rfl
theorem Xr.c3 (h : Xr w b v0 v1 v2 v3 v4) : w.cell? ⟨b, 3, none⟩ = some v3 := (cell_of_row _ _ _ _ _ _ h).trans rfl
theorem Xr.c4 (h : Xr w b v0 v1 v2 v3 v4) : w.cell? ⟨b, 4, none⟩ = some v4 := (cell_of_row _ _ _ _ _ _ h).trans rfl
end
end Go.Proofs.Ytahoepmnekconab
