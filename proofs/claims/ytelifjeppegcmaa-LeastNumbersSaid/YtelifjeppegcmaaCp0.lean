/-
  A row of numbers, or none, behind an empty one.
-/
import Derived.Test.YtelifjeppegcmaaGm
import Derived.Deep.Upon
namespace Go.Proofs.Ytelifjeppegcmaa
open Go.RowKit Go.Maps
set_option linter.unusedVariables false
set_option linter.unusedSimpArgs false
theorem src_none3 (w : World) (a : Option Addr) (c : Nat) {i : TypeInfo} (hs : i.size = 1) : Src Try.prog i.size 23 (.slice a 0 c) 0 [] w := by
  refine ⟨Or.inl ⟨3, Try.underlying23⟩, fun w' => ?_, ?_, ?_, by simp, fun u h => by cases h⟩
  · simp [Builtin.lenOf]
  · cases a <;> simp [Builtin.firstCells, loadCells, loadCellsFrom]
  · cases a <;> simp [Builtin.firstCells, loadCells, loadCellsFrom]
theorem natI_one (L : List Nat) : ∀ u ∈ natI L, u.oneCell' = true := by
  intro u hu
  obtain ⟨x, _, rfl⟩ := List.mem_map.1 hu
  rfl
theorem own_empty {w : World} {base g : Nat} (h : w.heap[g]? = some (.cells #[] 3 (0, 0))) (hb : base ≤ g) : w.ownsRow base 3 1 (.slice (some ⟨g, 0, none⟩) 0 0) 0 [] :=
  ⟨rfl, Or.inr ⟨g, 0, #[], rfl, hb, h, Nat.le_refl _, Nat.zero_le _, rfl, rfl⟩⟩
/-- append([]int{}, l...) as a step of a region that draws its order. -/
theorem step_copy {ops : Array Oper} {o : Oper} {a : Act} {w : World} {K : Act → World → Prop} {Q : Exit → Act → World → Prop} {E : Prop} (hgd : o.guard = none) (s x : Operand)
    (ho : o.op = .call { callee := .builtin .append, args := #[s, x], argTypes := #[23, 23] }) (base g0 : Nat) (hs : a.eval s = .slice (some ⟨g0, 0, none⟩) 0 0) (hown : w.ownsRow base 3 1 (.slice (some ⟨g0, 0, none⟩) 0 0) 0 [])
    (aX : Option Addr) (m c lo : Nat) (D : List Nat) (hx : a.eval x = .slice aX m c) (hD : D.length = m) (hsrc : w.ownsRow lo 3 1 (.slice aX m c) m (natI D)) (hsz : m ≤ 100000) (hbase : base ≤ w.heap.size)
    (h : ∀ g cap w', w'.ownsRow base 3 1 (.slice (some ⟨g, 0, none⟩) m cap) m (natI D) → Only (fun b => b = g0) w w' → K (a.put o.dst (.slice (some ⟨g, 0, none⟩) m cap)) w') :
    if Region.wanted o (yielded ops a.tmps) = true then Oper.wp Try.prog o a w K Q else E := by
  have hw : Region.wanted o (yielded ops a.tmps) = true := by simp [Region.wanted, hgd]
  rw [if_pos hw]
  obtain ⟨i4, g4, g40, g41, g42⟩ := info_parts info3b
  by_cases hm : m = 0
  · subst hm
    have hr := run_append_nothing (P := Try.prog) w 23 23 o.type 3 i4 Try.underlying23 g4 (some ⟨g0, 0, none⟩) 0 0 (Nat.le_refl _) (.slice aX 0 c) (src_none3 w aX c g41)
    obtain rfl : D = [] := List.eq_nil_of_length_eq_zero hD
    unfold Oper.wp execOp
    simp only [ho, resolve, invoke, builtin, Sem.run_bind, Sem.run_pure, Result.andThen_ok, List.map_toArray, List.map_cons, List.map_nil, hs, hx, hr]
    exact h g0 0 w hown (Only.refl _ _)
  · obtain ⟨b, cap, hv, _, _, _, hcc⟩ := row_form hsrc (by omega)
    injection hv with hv1
    subst hv1
    obtain ⟨v', w', hr, h2, h3, h4, h5⟩ := run_append_own_at (P := Try.prog) w base 23 o.type 3 i4 (.int .i64 0) 1 8 Try.underlying23 g4 g40 g41 g42 rfl (by decide) _ 0 [] hown ⟨b, 0, none⟩ m c (natI D) (by rw [natI_len, hD, Nat.mul_one]) (fun j u hj => by
      have hjl := (List.getElem?_eq_some_iff.1 hj).1
      rw [natI_len] at hjl
      rw [Addr.add_mid, Nat.zero_add, hcc j (by omega)]
      exact hj) (natI_one D) (by unfold maxLen; omega) (by omega) hbase
    obtain ⟨g, cap', rfl, hg1, hg2, hg3⟩ := own_addr h2 (fun e => by have := (h4.1 e).1; cases this)
    unfold Oper.wp execOp
    simp only [ho, resolve, invoke, builtin, Sem.run_bind, Sem.run_pure, Result.andThen_ok, List.map_toArray, List.map_cons, List.map_nil, hs, hx, hr]
    rw [Nat.zero_add, List.nil_append] at h2
    rw [Nat.zero_add]
    exact h g cap' w' h2 ((Only.refl (fun b => b = g0) w).grown h3 (fun k hk => by injection hk with hk; exact hk.symm))
end Go.Proofs.Ytelifjeppegcmaa
