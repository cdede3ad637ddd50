/-
  Bits copied, and some of them turned (l = append([]Bit{}, l[:k]...); l[i].Opp = v).
-/
import Derived.Test.YtegoadhnilmchaaAp
import Derived.Test.YtegoadhnilmchaaPa
namespace Go.Proofs.Ytegoadhnilmchaa
open Go.RowKit Go.Maps
set_option linter.unusedVariables false
set_option linter.unusedSimpArgs false
/-- a cell of a row of one's own turned. -/
theorem own_set {w : World} {base e size n g c : Nat} {xs : List Value} (h : w.ownsRow base e size (.slice (some ⟨g, 0, none⟩) n c) n xs) (i : Nat) (hi : i < n * size) (u : Value) : (w.setCell ⟨g, i, none⟩ u).ownsRow base e size (.slice (some ⟨g, 0, none⟩) n c) n (xs.set i u) := by
  obtain ⟨hl, ⟨hv, h0⟩ | ⟨g', cap, cur, hv, h1, h2, h3, h4, h5, h6⟩⟩ := h
  · cases hv
  · injection hv with e1 e2 e3
    injection e1 with e1
    injection e1 with e1
    subst e1 e3
    refine ⟨by rw [List.length_set]; exact hl, Or.inr ⟨g, c, cur.setIfInBounds i u, rfl, h1, heap_setCell_at h2 u, h3, h4, by simp [h5], ?_⟩⟩
    rw [Array.toList_setIfInBounds, List.take_set, h6]
theorem own_cell {w : World} {base e size n g c : Nat} {xs : List Value} (h : w.ownsRow base e size (.slice (some ⟨g, 0, none⟩) n c) n xs) {i : Nat} {u : Value} (hu : xs[i]? = some u) : w.cell? ⟨g, i, none⟩ = some u ∧ w.frozen? ⟨g, i, none⟩ = false ∧ base ≤ g ∧ g < w.heap.size := by
  obtain ⟨hl, ⟨hv, h0⟩ | ⟨g', cap, cur, hv, h1, h2, h3, h4, h5, h6⟩⟩ := h
  · cases hv
  · injection hv with e1 e2 e3
    injection e1 with e1
    injection e1 with e1
    subst e1 e3
    refine ⟨?_, fz_blk h2 i, h1, (Array.getElem?_eq_some_iff.1 h2).1⟩
    rw [cell_blk h2]
    rw [← h6, List.getElem?_take] at hu
    split at hu
    · rw [Array.getElem?_toList] at hu
      exact hu
    · cases hu
/-- Must turned into v. -/
def fx1 (v : Nat) (b : Bt) : Bt := if b.opp % 4 = 2 then ⟨b.cells, b.kind, b.len, v⟩ else b
def fx (v : Nat) (M : List Bt) (i : Nat) : List Bt := (M.take i).map (fx1 v) ++ M.drop i
theorem fx_zero (v : Nat) (M : List Bt) : fx v M 0 = M := by simp [fx]
theorem fx_len (v : Nat) (M : List Bt) (i : Nat) : (fx v M i).length = M.length := by
  unfold fx
  rw [List.length_append, List.length_map, List.length_take, List.length_drop]
  omega
theorem fx_all {v : Nat} {M : List Bt} : fx v M M.length = M.map (fx1 v) := by simp [fx]
theorem fx_at {v : Nat} {M : List Bt} {i : Nat} {x : Bt} (h : M[i]? = some x) : (fx v M i)[i]? = some x := by
  have hi := (List.getElem?_eq_some_iff.1 h).1
  unfold fx
  rw [List.getElem?_append_right (by rw [List.length_map, List.length_take]; omega), List.length_map, List.length_take, show i - min i M.length = 0 by omega, List.getElem?_drop]
  exact h
theorem fx_next {v : Nat} {M : List Bt} {i : Nat} {x : Bt} (h : M[i]? = some x) : fx v M (i + 1) = (fx v M i).set i (fx1 v x) := by
  obtain ⟨hi, e⟩ := List.getElem?_eq_some_iff.1 h
  unfold fx
  rw [List.set_append_right _ _ (by rw [List.length_map, List.length_take]; omega), List.length_map, List.length_take, show i - min i M.length = 0 by omega, List.drop_eq_getElem_cons hi, List.set_cons_zero, List.take_succ_eq_append_getElem hi, List.map_append, e]
  simp
theorem btC_set : ∀ (M : List Bt) (i : Nat) (x : Bt) (v : Nat), M[i]? = some x → (btC M).set (i * 4 + 3) (.int .u8 (v : Int)) = btC (M.set i ⟨x.cells, x.kind, x.len, v⟩)
  | [], i, x, v, h => by simp at h
  | y :: M, 0, x, v, h => by
    simp at h
    subst h
    rfl
  | y :: M, i + 1, x, v, h => by
    have ih := btC_set M i x v (by simpa using h)
    rw [List.set_cons_succ, show (i + 1) * 4 + 3 = 4 + (i * 4 + 3) by omega]
    show (btV y ++ btC M).set (4 + (i * 4 + 3)) _ = btV y ++ btC (M.set i _)
    rw [List.set_append_right _ _ (by simp [btV]), ← ih]
    simp [btV]
theorem fx_ok {v : Nat} {M : List Bt} (hv : v < 256) (h : ∀ b ∈ M, b.cells < 256 ∧ b.kind < 256 ∧ b.len < 256 ∧ b.opp < 256) : ∀ b ∈ M.map (fx1 v), b.cells < 256 ∧ b.kind < 256 ∧ b.len < 256 ∧ b.opp < 256 := fun b hb => by
  obtain ⟨x, hx, rfl⟩ := List.mem_map.1 hb
  have := h x hx
  unfold fx1
  split
  · exact ⟨this.1, this.2.1, this.2.2.1, hv⟩
  · exact this
/-- no Must within, then. -/
theorem fx_no {v : Nat} {M : List Bt} (hv : v % 4 ≠ 2) (k i : Nat) (h0 : i < k) : (Pa.ops (M.map (fx1 v)) k).getD i 0 ≠ 2 := by
  unfold Pa.ops
  rw [List.getD_eq_getElem?_getD, List.getElem?_map, List.getElem?_range h0]
  show Pa.op (M.map (fx1 v)) i ≠ 2
  unfold Pa.op
  by_cases hi : i = 0
  · rw [if_pos hi]; decide
  · rw [if_neg hi, List.getElem?_map]
    cases hx : M[i - 1]? with
    | none => show (0 : Nat) % 4 ≠ 2; decide
    | some x =>
      show (fx1 v x).opp % 4 ≠ 2
      unfold fx1
      split
      · exact hv
      · assumption
theorem wpList_appB {ops : Array Oper} {rest : List Oper} {o : Oper} {a : Act} {w : World} {Q : Exit → Act → World → Prop} (hgd : o.guard = none) (s x : Operand)
    (hop : o.op = .call { callee := .builtin .append, args := #[s, x], argTypes := #[22, 22] }) (W0 : World) (ho : Only (fun _ => False) W0 w) (g0 n c0 : Nat) (L : List Bt) (hs : a.eval s = .slice (some ⟨g0, 0, none⟩) n c0) (hown : w.ownsRow W0.heap.size 48 4 (.slice (some ⟨g0, 0, none⟩) n c0) n (btC L))
    (aX : Option Addr) (m c : Nat) (M : List Bt) (hx : a.eval x = .slice aX m c) (hM : m = M.length) (hV : Vw w aX (btC M)) (N : Nat) (hN : n + m = N) (hsz : N ≤ 1000000)
    (h : ∀ g cap w', w'.ownsRow W0.heap.size 48 4 (.slice (some ⟨g, 0, none⟩) N cap) N (btC (L ++ M)) → Only (fun _ => False) W0 w' → wpList Try.prog ops Q rest (a.put o.dst (.slice (some ⟨g, 0, none⟩) N cap)) w') :
    wpList Try.prog ops Q (o :: rest) a w :=
  wpList_plain hgd fun _ hK => wp_appB s x hop W0 ho g0 n c0 L hs hown aX m c M hx hM hV N hN hsz (fun g cap w' h1 h2 => hK _ _ (h g cap w' h1 h2))
end Go.Proofs.Ytegoadhnilmchaa

