/-
  Bits appended to a row of one's own, from a slice that can be read (it may be nil).
-/
import Derived.Test.YtegoadhnilmchaaVg
import Derived.Deep.Upon
namespace Go.Proofs.Ytegoadhnilmchaa
open Go.RowKit Go.Maps
set_option linter.unusedVariables false
set_option linter.unusedSimpArgs false
theorem infoBt : (Try.prog.info? 48).map (fun i => (i.zero, i.size, i.bytes)) = some (some (.agg #[.int .u8 0, .int .u8 0, .int .u8 0, .int .u8 0]), 4, 4) := by kernel_rfl
theorem src_noneB (w : World) (a : Option Addr) (c : Nat) {i : TypeInfo} (hs : i.size = 4) : Src Try.prog i.size 22 (.slice a 0 c) 0 [] w := by
  refine ⟨Or.inl ⟨48, Try.underlying22⟩, fun w' => ?_, ?_, ?_, by simp, fun u h => by cases h⟩
  · simp [Builtin.lenOf]
  · cases a <;> simp [Builtin.firstCells, loadCells, loadCellsFrom]
  · cases a <;> simp [Builtin.firstCells, loadCells, loadCellsFrom]
theorem btC_len : ∀ L : List Bt, (btC L).length = L.length * 4
  | [] => rfl
  | x :: L => by
    show (btV x ++ btC L).length = _
    rw [List.length_append, btC_len L]
    simp [btV]
    omega
theorem btC_one (L : List Bt) : ∀ u ∈ btC L, u.oneCell' = true := fun u hu => by
  unfold btC at hu
  obtain ⟨b, _, hb⟩ := List.mem_flatMap.1 hu
  unfold btV at hb
  simp at hb
  rcases hb with rfl | rfl | rfl | rfl <;> rfl
theorem btC_app (L M : List Bt) : btC (L ++ M) = btC L ++ btC M := by unfold btC; rw [List.flatMap_append]
theorem btC_drop : ∀ (S : List Bt) (x : Nat), btC (S.drop x) = (btC S).drop (x * 4)
  | [], x => by simp [btC]
  | c :: S, 0 => by simp
  | c :: S, x + 1 => by
    rw [List.drop_succ_cons, btC_drop S x, show (x + 1) * 4 = x * 4 + 4 by omega]
    rfl
theorem btC_take : ∀ (S : List Bt) (x : Nat), btC (S.take x) = (btC S).take (x * 4)
  | [], x => by simp [btC]
  | c :: S, 0 => by simp [btC]
  | c :: S, x + 1 => by
    rw [List.take_succ_cons, show (x + 1) * 4 = x * 4 + 4 by omega]
    show btV c ++ btC (S.take x) = _
    rw [btC_take S x]
    rfl
theorem Vw.btTake {w : World} {a : Option Addr} {S : List Bt} (h : Vw w a (btC S)) (x : Nat) : Vw w a (btC (S.take x)) := by
  rw [btC_take]
  rcases h with h | ⟨b, off, e, hc⟩
  · exact Or.inl (by rw [h]; simp)
  · refine Or.inr ⟨b, off, e, fun j u hj => ?_⟩
    rw [List.getElem?_take] at hj
    split at hj
    · exact hc _ _ hj
    · cases hj
theorem Vw.btDrop {w : World} {b off : Nat} {S : List Bt} (h : Vw w (some ⟨b, off, none⟩) (btC S)) (x : Nat) : Vw w (some ⟨b, off + x * 4, none⟩) (btC (S.drop x)) := by
  rw [btC_drop]
  rcases h with h | ⟨b', off', e, hc⟩
  · exact Or.inl (by rw [h]; simp)
  · injection e with e
    injection e with e1 e2
    subst e1 e2
    refine Or.inr ⟨b, off + x * 4, rfl, fun j u hj => ?_⟩
    rw [List.getElem?_drop] at hj
    rw [Nat.add_assoc]
    exact hc _ _ hj
/-- append(a row of one's own, what can be read..). -/
theorem run_appB (w W0 : World) (ho : Only (fun _ => False) W0 w) (g0 n c0 : Nat) (L : List Bt) (hown : w.ownsRow W0.heap.size 48 4 (.slice (some ⟨g0, 0, none⟩) n c0) n (btC L))
    (aX : Option Addr) (m c : Nat) (M : List Bt) (hM : m = M.length) (hV : Vw w aX (btC M)) (hsz : n + m ≤ 1000000) (ty : TypeId) :
    ∃ g cap w', (Builtin.append_ #[22, 22] ty #[.slice (some ⟨g0, 0, none⟩) n c0, .slice aX m c]).run Try.prog w = .ok (.slice (some ⟨g, 0, none⟩) (n + m) cap) w' ∧ w'.ownsRow W0.heap.size 48 4 (.slice (some ⟨g, 0, none⟩) (n + m) cap) (n + m) (btC (L ++ M)) ∧ Only (fun _ => False) W0 w' := by
  obtain ⟨i3, g3, g30, g31, g32⟩ := info_parts infoBt
  by_cases hm : m = 0
  · subst hm
    obtain rfl : M = [] := List.eq_nil_of_length_eq_zero hM.symm
    have hr := run_append_nothing (P := Try.prog) w 22 22 ty 48 i3 Try.underlying22 g3 (some ⟨g0, 0, none⟩) n c0 (own_le hown) (.slice aX 0 c) (src_noneB w aX c g31)
    exact ⟨g0, c0, w, hr, by rw [List.append_nil]; exact hown, ho⟩
  · obtain ⟨b, off, rfl, hb, hcc⟩ := hV.cells (by rw [btC_len, ← hM]; omega)
    obtain ⟨v', w', hr, h2, h3, h4, h5⟩ := run_append_own_at (P := Try.prog) (w := w) W0.heap.size 22 ty 48 i3 _ 4 4 Try.underlying22 g3 g30 g31 g32 rfl (by decide) _ n (btC L) hown ⟨b, off, none⟩ m c (btC M) (by rw [btC_len, hM]) (fun j u hj => by rw [Addr.add_mid]; exact hcc j u hj) (btC_one M) (by unfold maxLen; omega) (by omega) ho.size
    obtain ⟨g, cap, rfl, hg1, hg2, hg3⟩ := own_addr h2 (fun e => by have := (h4.1 e).1; cases this)
    refine ⟨g, cap, w', hr, by rw [btC_app]; exact h2, ?_⟩
    obtain ⟨g0', _, hv0, hb0, _⟩ := own_addr hown (fun e => by cases e)
    injection hv0 with hv0
    injection hv0 with hv0
    injection hv0 with hv0
    exact grow_only ho (by rw [hv0]; exact hb0) h3
theorem wp_appB {o : Oper} {a : Act} {w : World} {K : Act → World → Prop} {Q : Exit → Act → World → Prop} (s x : Operand)
    (hop : o.op = .call { callee := .builtin .append, args := #[s, x], argTypes := #[22, 22] }) (W0 : World) (ho : Only (fun _ => False) W0 w) (g0 n c0 : Nat) (L : List Bt) (hs : a.eval s = .slice (some ⟨g0, 0, none⟩) n c0) (hown : w.ownsRow W0.heap.size 48 4 (.slice (some ⟨g0, 0, none⟩) n c0) n (btC L))
    (aX : Option Addr) (m c : Nat) (M : List Bt) (hx : a.eval x = .slice aX m c) (hM : m = M.length) (hV : Vw w aX (btC M)) (N : Nat) (hN : n + m = N) (hsz : N ≤ 1000000)
    (h : ∀ g cap w', w'.ownsRow W0.heap.size 48 4 (.slice (some ⟨g, 0, none⟩) N cap) N (btC (L ++ M)) → Only (fun _ => False) W0 w' → K (a.put o.dst (.slice (some ⟨g, 0, none⟩) N cap)) w') :
    Oper.wp Try.prog o a w K Q := by
  subst hN
  obtain ⟨g, cap, w', hr, h2, h3⟩ := run_appB w W0 ho g0 n c0 L hown aX m c M hM hV hsz o.type
  unfold Oper.wp execOp
  simp only [hop, resolve, invoke, builtin, Sem.run_bind, Sem.run_pure, Result.andThen_ok, List.map_toArray, List.map_cons, List.map_nil, hs, hx, hr]
  exact h g cap w' h2 h3
theorem own_e0B {w : World} {base g : Nat} (h : w.heap[g]? = some (.cells #[] 48 (0, 0))) (hb : base ≤ g) : w.ownsRow base 48 4 (.slice (some ⟨g, 0, none⟩) 0 0) 0 (btC []) :=
  ⟨rfl, Or.inr ⟨g, 0, #[], rfl, hb, h, Nat.le_refl _, Nat.zero_le _, rfl, rfl⟩⟩
end Go.Proofs.Ytegoadhnilmchaa

