/-
  Lines appended to a row of one's own that may be nil, from a slice that can be read (it may be nil).
-/
import Derived.Test.YtegoadhnilmchaaAi
namespace Go.Proofs.Ytegoadhnilmchaa
open Go.RowKit Go.Maps
set_option linter.unusedVariables false
set_option linter.unusedSimpArgs false
theorem src_noneL (w : World) (a : Option Addr) (c : Nat) {i : TypeInfo} (hs : i.size = 4) : Src Try.prog i.size 32 (.slice a 0 c) 0 [] w := by
  refine ⟨Or.inl ⟨43, Try.underlying32⟩, fun w' => ?_, ?_, ?_, by simp, fun u h => by cases h⟩
  · simp [Builtin.lenOf]
  · cases a <;> simp [Builtin.firstCells, loadCells, loadCellsFrom]
  · cases a <;> simp [Builtin.firstCells, loadCells, loadCellsFrom]
theorem lnC_one (L : List Ln) : ∀ u ∈ lnC L, u.oneCell' = true := fun u hu => by
  unfold lnC at hu
  obtain ⟨b, _, hb⟩ := List.mem_flatMap.1 hu
  unfold lnV at hb
  simp at hb
  rcases hb with rfl | rfl | rfl | rfl <;> rfl
theorem run_appLs (w : World) (base : Nat) (al : Option Addr) (n c : Nat) (D : List Ln) (hown : w.ownsRow base 43 4 (.slice al n c) n (lnC D))
    (aX : Option Addr) (m cX : Nat) (M : List Ln) (hM : m = M.length) (hV : Vw w aX (lnC M)) (hsz : n + m ≤ 1000000) (hbase : base ≤ w.heap.size) (ty : TypeId) :
    ∃ al' cap w', (Builtin.append_ #[32, 32] ty #[.slice al n c, .slice aX m cX]).run Try.prog w = .ok (.slice al' (n + m) cap) w' ∧ w'.ownsRow base 43 4 (.slice al' (n + m) cap) (n + m) (lnC (D ++ M)) ∧ Only (fun q => (Value.slice al n c).ownBlock = some q) w w' := by
  obtain ⟨i3, g3, g30, g31, g32⟩ := info_parts infoLn
  by_cases hm : m = 0
  · subst hm
    obtain rfl : M = [] := List.eq_nil_of_length_eq_zero hM.symm
    have hr := run_append_nothing (P := Try.prog) w 32 32 ty 43 i3 Try.underlying32 g3 al n c (own_le hown) (.slice aX 0 cX) (src_noneL w aX cX g31)
    exact ⟨al, c, w, hr, by rw [List.append_nil]; exact hown, Only.refl _ _⟩
  · obtain ⟨b, off, rfl, hb, hcc⟩ := hV.cells (by rw [lnC_len, ← hM]; omega)
    obtain ⟨v', w', hr, h2, h3, h4, h5⟩ := run_append_own_at (P := Try.prog) (w := w) base 32 ty 43 i3 _ 4 32 Try.underlying32 g3 g30 g31 g32 rfl (by decide) (.slice al n c) n (lnC D) hown ⟨b, off, none⟩ m cX (lnC M) (by rw [lnC_len, hM]) (fun j u hj => by rw [Addr.add_mid]; exact hcc j u hj) (lnC_one M) (by unfold maxLen; omega) (by omega) hbase
    obtain ⟨g, cap, rfl, hg1, hg2, hg3⟩ := own_addr h2 (fun e => by have := (h4.1 e).2; omega)
    exact ⟨_, cap, w', hr, by rw [lnC_append]; exact h2, (Only.refl (fun q => (Value.slice al n c).ownBlock = some q) w).grown h3 (fun k hk => hk)⟩
theorem wp_appLs {o : Oper} {a : Act} {w : World} {K : Act → World → Prop} {Q : Exit → Act → World → Prop} (s x : Operand)
    (hop : o.op = .call { callee := .builtin .append, args := #[s, x], argTypes := #[32, 32] }) (base : Nat) (al : Option Addr) (n c : Nat) (D : List Ln) (hs : a.eval s = .slice al n c) (hown : w.ownsRow base 43 4 (.slice al n c) n (lnC D))
    (aX : Option Addr) (m cX : Nat) (M : List Ln) (hx : a.eval x = .slice aX m cX) (hM : m = M.length) (hV : Vw w aX (lnC M)) (N : Nat) (hN : n + m = N) (hsz : N ≤ 1000000) (hbase : base ≤ w.heap.size)
    (h : ∀ al' cap w', w'.ownsRow base 43 4 (.slice al' N cap) N (lnC (D ++ M)) → Only (fun q => (Value.slice al n c).ownBlock = some q) w w' → K (a.put o.dst (.slice al' N cap)) w') :
    Oper.wp Try.prog o a w K Q := by
  subst hN
  obtain ⟨al', cap, w', hr, h2, h3⟩ := run_appLs w base al n c D hown aX m cX M hM hV hsz hbase o.type
  unfold Oper.wp execOp
  simp only [hop, resolve, invoke, builtin, Sem.run_bind, Sem.run_pure, Result.andThen_ok, List.map_toArray, List.map_cons, List.map_nil, hs, hx, hr]
  exact h al' cap w' h2 h3
theorem wpList_appLs {ops : Array Oper} {rest : List Oper} {o : Oper} {a : Act} {w : World} {Q : Exit → Act → World → Prop} (hgd : o.guard = none) (s x : Operand)
    (hop : o.op = .call { callee := .builtin .append, args := #[s, x], argTypes := #[32, 32] }) (base : Nat) (al : Option Addr) (n c : Nat) (D : List Ln) (hs : a.eval s = .slice al n c) (hown : w.ownsRow base 43 4 (.slice al n c) n (lnC D))
    (aX : Option Addr) (m cX : Nat) (M : List Ln) (hx : a.eval x = .slice aX m cX) (hM : m = M.length) (hV : Vw w aX (lnC M)) (N : Nat) (hN : n + m = N) (hsz : N ≤ 1000000) (hbase : base ≤ w.heap.size)
    (h : ∀ al' cap w', w'.ownsRow base 43 4 (.slice al' N cap) N (lnC (D ++ M)) → Only (fun q => (Value.slice al n c).ownBlock = some q) w w' → wpList Try.prog ops Q rest (a.put o.dst (.slice al' N cap)) w') :
    wpList Try.prog ops Q (o :: rest) a w :=
  wpList_plain hgd fun _ hK => wp_appLs s x hop base al n c D hs hown aX m cX M hx hM hV N hN hsz hbase (fun al' cap w' h1 h2 => hK _ _ (h al' cap w' h1 h2))
theorem appLs_only {W w w' : World} {al : Option Addr} {n c : Nat} {D : List Ln} (hown : w.ownsRow W.heap.size 43 4 (.slice al n c) n (lnC D)) (h : Only (fun q => (Value.slice al n c).ownBlock = some q) w w') (ho : Only (fun g => W.heap.size ≤ g) W w) : Only (fun g => W.heap.size ≤ g) W w' := ho.trans (h.mono (fun g hg => (own_own hown hg).1))
end Go.Proofs.Ytegoadhnilmchaa
