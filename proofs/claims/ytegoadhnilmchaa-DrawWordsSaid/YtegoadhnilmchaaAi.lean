/-
  Ints and lines appended to a row of one's own.
-/
import Derived.Test.YtegoadhnilmchaaLn
import Derived.Deep.Upon
namespace Go.Proofs.Ytegoadhnilmchaa
open Go.RowKit Go.Maps
set_option linter.unusedVariables false
set_option linter.unusedSimpArgs false
theorem src_noneI (w : World) (a : Option Addr) (c : Nat) {i : TypeInfo} (hs : i.size = 1) : Src Try.prog i.size 58 (.slice a 0 c) 0 [] w := by
  refine ⟨Or.inl ⟨3, Try.underlying58⟩, fun w' => ?_, ?_, ?_, by simp, fun u h => by cases h⟩
  · simp [Builtin.lenOf]
  · cases a <;> simp [Builtin.firstCells, loadCells, loadCellsFrom]
  · cases a <;> simp [Builtin.firstCells, loadCells, loadCellsFrom]
theorem natI_one (L : List Nat) : ∀ u ∈ natI L, u.oneCell' = true := fun u hu => by
  unfold natI at hu
  obtain ⟨x, _, rfl⟩ := List.mem_map.1 hu
  rfl
theorem natI_app (L M : List Nat) : natI (L ++ M) = natI L ++ natI M := by simp [natI]
theorem run_appI (w W0 : World) (ho : Only (fun _ => False) W0 w) (g0 n c0 : Nat) (L : List Nat) (hown : w.ownsRow W0.heap.size 3 1 (.slice (some ⟨g0, 0, none⟩) n c0) n (natI L))
    (aX : Option Addr) (m c : Nat) (M : List Nat) (hM : m = M.length) (hV : Vw w aX (natI M)) (hsz : n + m ≤ 1000000) (ty : TypeId) :
    ∃ g cap w', (Builtin.append_ #[58, 58] ty #[.slice (some ⟨g0, 0, none⟩) n c0, .slice aX m c]).run Try.prog w = .ok (.slice (some ⟨g, 0, none⟩) (n + m) cap) w' ∧ w'.ownsRow W0.heap.size 3 1 (.slice (some ⟨g, 0, none⟩) (n + m) cap) (n + m) (natI (L ++ M)) ∧ Only (fun _ => False) W0 w' := by
  obtain ⟨i3, g3, g30, g31, g32⟩ := info_parts info3
  by_cases hm : m = 0
  · subst hm
    obtain rfl : M = [] := List.eq_nil_of_length_eq_zero hM.symm
    have hr := run_append_nothing (P := Try.prog) w 58 58 ty 3 i3 Try.underlying58 g3 (some ⟨g0, 0, none⟩) n c0 (own_le hown) (.slice aX 0 c) (src_noneI w aX c g31)
    exact ⟨g0, c0, w, hr, by rw [List.append_nil]; exact hown, ho⟩
  · obtain ⟨b, off, rfl, hb, hcc⟩ := hV.cells (by rw [natI_len, ← hM]; omega)
    obtain ⟨v', w', hr, h2, h3, h4, h5⟩ := run_append_own_at (P := Try.prog) (w := w) W0.heap.size 58 ty 3 i3 _ 1 8 Try.underlying58 g3 g30 g31 g32 rfl (by decide) _ n (natI L) hown ⟨b, off, none⟩ m c (natI M) (by rw [natI_len, hM, Nat.mul_one]) (fun j u hj => by rw [Addr.add_mid]; exact hcc j u hj) (natI_one M) (by unfold maxLen; omega) (by omega) ho.size
    obtain ⟨g, cap, rfl, hg1, hg2, hg3⟩ := own_addr h2 (fun e => by have := (h4.1 e).1; cases this)
    refine ⟨g, cap, w', hr, by rw [natI_app]; exact h2, ?_⟩
    obtain ⟨g0', _, hv0, hb0, _⟩ := own_addr hown (fun e => by cases e)
    injection hv0 with hv0
    injection hv0 with hv0
    injection hv0 with hv0
    exact grow_only ho (by rw [hv0]; exact hb0) h3
theorem wp_appI {o : Oper} {a : Act} {w : World} {K : Act → World → Prop} {Q : Exit → Act → World → Prop} (s x : Operand)
    (hop : o.op = .call { callee := .builtin .append, args := #[s, x], argTypes := #[58, 58] }) (W0 : World) (ho : Only (fun _ => False) W0 w) (g0 n c0 : Nat) (L : List Nat) (hs : a.eval s = .slice (some ⟨g0, 0, none⟩) n c0) (hown : w.ownsRow W0.heap.size 3 1 (.slice (some ⟨g0, 0, none⟩) n c0) n (natI L))
    (aX : Option Addr) (m c : Nat) (M : List Nat) (hx : a.eval x = .slice aX m c) (hM : m = M.length) (hV : Vw w aX (natI M)) (N : Nat) (hN : n + m = N) (hsz : N ≤ 1000000)
    (h : ∀ g cap w', w'.ownsRow W0.heap.size 3 1 (.slice (some ⟨g, 0, none⟩) N cap) N (natI (L ++ M)) → Only (fun _ => False) W0 w' → K (a.put o.dst (.slice (some ⟨g, 0, none⟩) N cap)) w') :
    Oper.wp Try.prog o a w K Q := by
  subst hN
  obtain ⟨g, cap, w', hr, h2, h3⟩ := run_appI w W0 ho g0 n c0 L hown aX m c M hM hV hsz o.type
  unfold Oper.wp execOp
  simp only [hop, resolve, invoke, builtin, Sem.run_bind, Sem.run_pure, Result.andThen_ok, List.map_toArray, List.map_cons, List.map_nil, hs, hx, hr]
  exact h g cap w' h2 h3
theorem wpList_appI {ops : Array Oper} {rest : List Oper} {o : Oper} {a : Act} {w : World} {Q : Exit → Act → World → Prop} (hgd : o.guard = none) (s x : Operand)
    (hop : o.op = .call { callee := .builtin .append, args := #[s, x], argTypes := #[58, 58] }) (W0 : World) (ho : Only (fun _ => False) W0 w) (g0 n c0 : Nat) (L : List Nat) (hs : a.eval s = .slice (some ⟨g0, 0, none⟩) n c0) (hown : w.ownsRow W0.heap.size 3 1 (.slice (some ⟨g0, 0, none⟩) n c0) n (natI L))
    (aX : Option Addr) (m c : Nat) (M : List Nat) (hx : a.eval x = .slice aX m c) (hM : m = M.length) (hV : Vw w aX (natI M)) (N : Nat) (hN : n + m = N) (hsz : N ≤ 1000000)
    (h : ∀ g cap w', w'.ownsRow W0.heap.size 3 1 (.slice (some ⟨g, 0, none⟩) N cap) N (natI (L ++ M)) → Only (fun _ => False) W0 w' → wpList Try.prog ops Q rest (a.put o.dst (.slice (some ⟨g, 0, none⟩) N cap)) w') :
    wpList Try.prog ops Q (o :: rest) a w :=
  wpList_plain hgd fun _ hK => wp_appI s x hop W0 ho g0 n c0 L hs hown aX m c M hx hM hV N hN hsz (fun g cap w' h1 h2 => hK _ _ (h g cap w' h1 h2))
theorem own_e0I {w : World} {base g : Nat} (h : w.heap[g]? = some (.cells #[] 3 (0, 0))) (hb : base ≤ g) : w.ownsRow base 3 1 (.slice (some ⟨g, 0, none⟩) 0 0) 0 (natI []) :=
  ⟨rfl, Or.inr ⟨g, 0, #[], rfl, hb, h, Nat.le_refl _, Nat.zero_le _, rfl, rfl⟩⟩
/-- one line more. -/
theorem wp_appL {o : Oper} {a : Act} {w : World} {K : Act → World → Prop} {Q : Exit → Act → World → Prop} (s x : Operand)
    (hop : o.op = .call { callee := .builtin .append, args := #[s, x], argTypes := #[32, 32] }) (base : Nat) (al : Option Addr) (n c : Nat) (D : List Ln) (hs : a.eval s = .slice al n c) (hown : w.ownsRow base 43 4 (.slice al n c) n (lnC D))
    (g1 c1 : Nat) (l : Ln) (hx : a.eval x = .slice (some ⟨g1, 0, none⟩) 1 c1) (hb : w.heap[g1]? = some (.cells #[.int .i64 (l.a : Int), .int .i64 (l.b : Int), .int .i64 (l.w : Int), .int .u8 (l.e : Int)] 43 (0, 0))) (hsz : n ≤ 1000000) (hbase : base ≤ w.heap.size)
    (h : ∀ g cap w', w'.ownsRow base 43 4 (.slice (some ⟨g, 0, none⟩) (n + 1) cap) (n + 1) (lnC (D ++ [l])) → Only (fun q => (Value.slice al n c).ownBlock = some q) w w' → K (a.put o.dst (.slice (some ⟨g, 0, none⟩) (n + 1) cap)) w') :
    Oper.wp Try.prog o a w K Q := by
  obtain ⟨i3, g3, g30, g31, g32⟩ := info_parts infoLn
  obtain ⟨v', w', hr, h2, h3, h4, h5⟩ := run_append_own_at (P := Try.prog) (w := w) base 32 o.type 43 i3 _ 4 32 Try.underlying32 g3 g30 g31 g32 rfl (by decide) _ n (lnC D) hown ⟨g1, 0, none⟩ 1 c1 [.int .i64 (l.a : Int), .int .i64 (l.b : Int), .int .i64 (l.w : Int), .int .u8 (l.e : Int)] rfl (World.news_of_block (cs := #[.int .i64 (l.a : Int), .int .i64 (l.b : Int), .int .i64 (l.w : Int), .int .u8 (l.e : Int)]) hb) (fun u hu => by simp at hu; rcases hu with rfl | rfl | rfl | rfl <;> rfl) (by unfold maxLen; omega) (by omega) hbase
  obtain ⟨g, cap, rfl, hg1, hg2, hg3⟩ := own_addr h2 (fun e => by have := (h4.1 e).2; omega)
  unfold Oper.wp execOp
  simp only [hop, resolve, invoke, builtin, Sem.run_bind, Sem.run_pure, Result.andThen_ok, List.map_toArray, List.map_cons, List.map_nil, hs, hx, hr]
  exact h g cap w' (by rw [lnC_snoc]; exact h2) ((Only.refl (fun q => (Value.slice al n c).ownBlock = some q) w).grown h3 (fun k hk => hk))
end Go.Proofs.Ytegoadhnilmchaa

