/-
  Two rows that grow in a region that draws its order.
-/
import Derived.Test.YtelifjeppegcmaaGm
namespace Go.Proofs.Ytelifjeppegcmaa
open Go.RowKit Go.Maps
set_option linter.unusedVariables false
set_option linter.unusedSimpArgs false
structure Rs (V X : World) (B : Nat) (vN vO va : Value) (na : Nat) (xa : List Value) (vb : Value) (nb : Nat) (xb : List Value) : Prop where
  o : Only (fun b => vN.ownBlock = some b ∨ vO.ownBlock = some b) V X
  a : X.ownsRow B 23 1 va na xa
  b : X.ownsRow B 38 1 vb nb xb
theorem Rs.alloc {V X : World} {B na nb : Nat} {vN vO va vb : Value} {xa xb : List Value} (h : Rs V X B vN vO va na xa vb nb xb) (o : Obj) : Rs V (X.alloc o) B vN vO va na xa vb nb xb := ⟨h.o.alloc _, h.a.alloc _, h.b.alloc _⟩
theorem Rs.appA {V X Y : World} {B na nb n' : Nat} {vN vO v' vb : Value} {xa xb x' : List Value} (h : Rs V X B vN vO vN na xa vb nb xb) (hg : X.grownBy Y vN.ownBlock) (ho : Y.ownsRow B 23 1 v' n' x') : Rs V Y B vN vO v' n' x' vb nb xb := ⟨h.o.grown hg (fun q hq => Or.inl hq), ho, own_grow2 h.b h.a hg (by decide)⟩
theorem Rs.appB {V X Y : World} {B na nb n' : Nat} {vN vO v' va : Value} {xa xb x' : List Value} (h : Rs V X B vN vO va na xa vO nb xb) (hg : X.grownBy Y vO.ownBlock) (ho : Y.ownsRow B 38 1 v' n' x') : Rs V Y B vN vO va na xa v' n' x' := ⟨h.o.grown hg (fun q hq => Or.inr hq), own_grow2 h.a h.b hg (by decide), ho⟩
theorem blk_alloc {X : World} {b : Nat} {p : Obj} (o : Obj) (h : X.heap[b]? = some p) : (X.alloc o).heap[b]? = some p := (Below.heap_alloc _ _ _ (Array.getElem?_eq_some_iff.1 h).1).trans h
theorem one_val {v : Value} (h : v.oneCell' = true) : ∀ u ∈ [v], u.oneCell' = true := fun u hu => by
  rw [List.mem_singleton] at hu
  rw [hu]
  exact h
/-- one row more, as a step of a region that draws its order. -/
theorem step_A {ops : Array Oper} {o : Oper} {a : Act} {X : World} {K : Act → World → Prop} {Q : Exit → Act → World → Prop} {E : Prop} (hgd : o.guard = none) (s x : Operand) (ho : o.op = .call { callee := .builtin .append, args := #[s, x], argTypes := #[25, 25] }) (B : Nat) (v : Value) (i : Nat) (vs : List Value) (hs : a.eval s = v) (hown : X.ownsRow B 23 1 v i vs) (n0 : Nat) (u : Value) (hx : a.eval x = .slice (some ⟨n0, 0, none⟩) 1 1) (hb : X.heap[n0]? = some (.cells #[u] 23 (0, 0))) (h1 : u.oneCell' = true) (hi : i ≤ 100000) (hB : B ≤ X.heap.size)
    (h : ∀ g cap Y, Y.ownsRow B 23 1 (.slice (some ⟨g, 0, none⟩) (i + 1) cap) (i + 1) (vs ++ [u]) → X.grownBy Y v.ownBlock → K (a.put o.dst (.slice (some ⟨g, 0, none⟩) (i + 1) cap)) Y) :
    if Region.wanted o (yielded ops a.tmps) = true then Oper.wp Try.prog o a X K Q else E := by
  obtain ⟨i23, g23, g230, g231, g232⟩ := info_parts info23b
  exact step_append_lies _ hgd s x 25 ho B 23 i23 _ 1 24 Try.underlying25 g23 g230 g231 g232 rfl (by decide) v i vs hs hown ⟨n0, 0, none⟩ 1 1 [u] hx rfl (World.news_of_block (cs := #[u]) hb) (one_val h1) (by decide) (by unfold maxLen; omega) (by omega) hB _ rfl (fun g cap Y h1 h2 _ _ => h g cap Y h1 h2)
/-- one Out more. -/
theorem step_B {ops : Array Oper} {o : Oper} {a : Act} {X : World} {K : Act → World → Prop} {Q : Exit → Act → World → Prop} {E : Prop} (hgd : o.guard = none) (s x : Operand) (ho : o.op = .call { callee := .builtin .append, args := #[s, x], argTypes := #[22, 22] }) (B : Nat) (v : Value) (i : Nat) (vs : List Value) (hs : a.eval s = v) (hown : X.ownsRow B 38 1 v i vs) (n0 : Nat) (u : Value) (hx : a.eval x = .slice (some ⟨n0, 0, none⟩) 1 1) (hb : X.heap[n0]? = some (.cells #[u] 38 (0, 0))) (h1 : u.oneCell' = true) (hi : i ≤ 100000) (hB : B ≤ X.heap.size)
    (h : ∀ g cap Y, Y.ownsRow B 38 1 (.slice (some ⟨g, 0, none⟩) (i + 1) cap) (i + 1) (vs ++ [u]) → X.grownBy Y v.ownBlock → K (a.put o.dst (.slice (some ⟨g, 0, none⟩) (i + 1) cap)) Y) :
    if Region.wanted o (yielded ops a.tmps) = true then Oper.wp Try.prog o a X K Q else E := by
  obtain ⟨i38, g38, g380, g381, g382⟩ := info_parts info38b
  exact step_append_lies _ hgd s x 22 ho B 38 i38 _ 1 4 Try.underlying22 g38 g380 g381 g382 rfl (by decide) v i vs hs hown ⟨n0, 0, none⟩ 1 1 [u] hx rfl (World.news_of_block (cs := #[u]) hb) (one_val h1) (by decide) (by unfold maxLen; omega) (by omega) hB _ rfl (fun g cap Y h1 h2 _ _ => h g cap Y h1 h2)
end Go.Proofs.Ytelifjeppegcmaa
