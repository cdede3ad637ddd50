/-
  Bytes in rows of one's own; a change as a value.
-/
import Derived.Test.YtegoadhnilmchaaVb
import Derived.Test.YtegoadhnilmchaaEd
import Derived.Deep.Upon
import Derived.Lib.AppendZerosOnto
namespace Go.Proofs.Ytegoadhnilmchaa
open Go.RowKit Go.Maps
set_option linter.unusedVariables false
set_option linter.unusedSimpArgs false
theorem info5 : (Try.prog.info? 5).map (fun i => (i.zero, i.size, i.bytes)) = some (some (.int .u8 0), 1, 1) := by kernel_rfl
theorem u8s_app (L M : List Nat) : u8s (L ++ M) = u8s L ++ u8s M := by simp [u8s]
theorem src_noneY (w : World) (a : Option Addr) (c : Nat) {i : TypeInfo} (hs : i.size = 1) : Src Try.prog i.size 36 (.slice a 0 c) 0 [] w := by
  refine ⟨Or.inl ⟨5, Try.underlying36⟩, fun w' => ?_, ?_, ?_, by simp, fun u h => by cases h⟩
  · simp [Builtin.lenOf]
  · cases a <;> simp [Builtin.firstCells, loadCells, loadCellsFrom]
  · cases a <;> simp [Builtin.firstCells, loadCells, loadCellsFrom]
/-- append(a row of one's own, what can be read..): either may be nil. -/
theorem run_appY (w : World) (B : Nat) (hB : B ≤ w.heap.size) (al : Option Addr) (n c : Nat) (L : List Nat) (hown : w.ownsRow B 5 1 (.slice al n c) n (u8s L))
    (aX : Option Addr) (m cX : Nat) (M : List Nat) (hM : m = M.length) (hV : Vw w aX (u8s M)) (hsz : n + m ≤ 1000000) (ty : TypeId) :
    ∃ a' c' w', (Builtin.append_ #[36, 36] ty #[.slice al n c, .slice aX m cX]).run Try.prog w = .ok (.slice a' (n + m) c') w' ∧ w'.ownsRow B 5 1 (.slice a' (n + m) c') (n + m) (u8s (L ++ M)) ∧ Only (fun q => (Value.slice al n c).ownBlock = some q) w w' := by
  obtain ⟨i5, g5, g50, g51, g52⟩ := info_parts info5
  by_cases hm : m = 0
  · subst hm
    obtain rfl : M = [] := List.eq_nil_of_length_eq_zero hM.symm
    have hr := run_append_nothing (P := Try.prog) w 36 36 ty 5 i5 Try.underlying36 g5 al n c (own_le hown) (.slice aX 0 cX) (src_noneY w aX cX g51)
    exact ⟨al, c, w, hr, by rw [List.append_nil]; exact hown, Only.refl _ _⟩
  · obtain ⟨b, off, rfl, hb, hcc⟩ := hV.cells (by rw [u8s_len, ← hM]; omega)
    obtain ⟨v', w', hr, h2, h3, h4, h5⟩ := run_append_own_at (P := Try.prog) (w := w) B 36 ty 5 i5 _ 1 1 Try.underlying36 g5 g50 g51 g52 rfl (by decide) _ n (u8s L) hown ⟨b, off, none⟩ m cX (u8s M) (by rw [u8s_len, hM, Nat.mul_one]) (fun j u hj => by rw [Addr.add_mid]; exact hcc j u hj) (u8s_one M) (by unfold maxLen; omega) (by omega) hB
    obtain ⟨a', c', rfl⟩ := own_form h2
    exact ⟨a', c', w', hr, by rw [u8s_app]; exact h2, (Only.refl _ w).grown h3 (fun k hk => hk)⟩
theorem wp_appY {o : Oper} {a : Act} {w : World} {K : Act → World → Prop} {Q : Exit → Act → World → Prop} (s x : Operand)
    (hop : o.op = .call { callee := .builtin .append, args := #[s, x], argTypes := #[36, 36] }) (B : Nat) (hB : B ≤ w.heap.size) (al : Option Addr) (n c : Nat) (L : List Nat) (hs : a.eval s = .slice al n c) (hown : w.ownsRow B 5 1 (.slice al n c) n (u8s L))
    (aX : Option Addr) (m cX : Nat) (M : List Nat) (hx : a.eval x = .slice aX m cX) (hM : m = M.length) (hV : Vw w aX (u8s M)) (N : Nat) (hN : n + m = N) (hsz : N ≤ 1000000)
    (h : ∀ a' c' w', w'.ownsRow B 5 1 (.slice a' N c') N (u8s (L ++ M)) → Only (fun q => (Value.slice al n c).ownBlock = some q) w w' → K (a.put o.dst (.slice a' N c')) w') :
    Oper.wp Try.prog o a w K Q := by
  subst hN
  obtain ⟨g, cap, w', hr, h2, h3⟩ := run_appY w B hB al n c L hown aX m cX M hM hV hsz o.type
  unfold Oper.wp execOp
  simp only [hop, resolve, invoke, builtin, Sem.run_bind, Sem.run_pure, Result.andThen_ok, List.map_toArray, List.map_cons, List.map_nil, hs, hx, hr]
  exact h g cap w' h2 h3
theorem wpList_appY {ops : Array Oper} {rest : List Oper} {o : Oper} {a : Act} {w : World} {Q : Exit → Act → World → Prop} (hgd : o.guard = none) (s x : Operand)
    (hop : o.op = .call { callee := .builtin .append, args := #[s, x], argTypes := #[36, 36] }) (B : Nat) (hB : B ≤ w.heap.size) (al : Option Addr) (n c : Nat) (L : List Nat) (hs : a.eval s = .slice al n c) (hown : w.ownsRow B 5 1 (.slice al n c) n (u8s L))
    (aX : Option Addr) (m cX : Nat) (M : List Nat) (hx : a.eval x = .slice aX m cX) (hM : m = M.length) (hV : Vw w aX (u8s M)) (N : Nat) (hN : n + m = N) (hsz : N ≤ 1000000)
    (h : ∀ a' c' w', w'.ownsRow B 5 1 (.slice a' N c') N (u8s (L ++ M)) → Only (fun q => (Value.slice al n c).ownBlock = some q) w w' → wpList Try.prog ops Q rest (a.put o.dst (.slice a' N c')) w') :
    wpList Try.prog ops Q (o :: rest) a w :=
  wpList_plain hgd fun _ hK => wp_appY s x hop B hB al n c L hs hown aX m cX M hx hM hV N hN hsz (fun g cap w' h1 h2 => hK _ _ (h g cap w' h1 h2))
/-- what such an append leaves as it was. -/
theorem appY_only {W w w' : World} {al : Option Addr} {n c : Nat} {D : List Nat} (hown : w.ownsRow W.heap.size 5 1 (.slice al n c) n (u8s D)) (h : Only (fun q => (Value.slice al n c).ownBlock = some q) w w') (ho : Only (fun g => W.heap.size ≤ g) W w) : Only (fun g => W.heap.size ≤ g) W w' := ho.trans (h.mono (fun g hg => (own_own hown hg).1))
theorem own_nilY (w : World) (B : Nat) : w.ownsRow B 5 1 (.slice none 0 0) 0 (u8s []) := ⟨rfl, Or.inl ⟨rfl, rfl⟩⟩
theorem own_e0Y {w : World} {base g : Nat} (h : w.heap[g]? = some (.cells #[] 5 (0, 0))) (hb : base ≤ g) : w.ownsRow base 5 1 (.slice (some ⟨g, 0, none⟩) 0 0) 0 (u8s []) :=
  ⟨rfl, Or.inr ⟨g, 0, #[], rfl, hb, h, Nat.le_refl _, Nat.zero_le _, rfl, rfl⟩⟩
/-- a slice of bytes, cut. -/
theorem vw_cutY {w : World} {a : Option Addr} {L : List Nat} (h : Vw w a (u8s L)) (lo k : Nat) : Vw w (a.map (fun x => x.add lo)) (u8s ((L.drop lo).take k)) := by
  rcases h with h | ⟨b, off, e, hc⟩
  · have hl : L = [] := by
      have := congrArg List.length h
      rw [u8s_len] at this
      exact List.eq_nil_of_length_eq_zero this
    subst hl
    exact Or.inl (by simp [u8s])
  · subst e
    refine Or.inr ⟨b, off + lo, by rw [Option.map_some, Addr.add_mid], fun j u hj => ?_⟩
    have h2 := hc (lo + j) u (by
      unfold u8s at hj ⊢
      rw [List.getElem?_map, List.getElem?_take] at hj
      split at hj
      · rw [List.getElem?_drop] at hj
        rw [List.getElem?_map]
        exact hj
      · cases hj)
    rw [Nat.add_assoc]
    exact h2
theorem vw_headY {w : World} {a : Option Addr} {L : List Nat} (h : Vw w a (u8s L)) (k : Nat) : Vw w a (u8s (L.take k)) := by
  have h2 := vw_cutY h 0 k
  rw [List.drop_zero] at h2
  have e : a.map (fun x => x.add 0) = a := by cases a <;> simp [Addr.add]
  rw [e] at h2
  exact h2
theorem vw_byte {w : World} {a : Option Addr} {L : List Nat} {k x : Nat} (h : Vw w a (u8s L)) (hk : L[k]? = some x) : ∃ b off, a = some ⟨b, off, none⟩ ∧ b < w.heap.size ∧ w.cell? ⟨b, off + k, none⟩ = some (.int .u8 (x : Int)) := by
  have hl := (List.getElem?_eq_some_iff.1 hk).1
  obtain ⟨b, off, e, hb, hc⟩ := h.cells (by rw [u8s_len]; omega)
  exact ⟨b, off, e, hb, hc k _ (u8s_at hk)⟩
theorem blk_three {w : World} {R : Nat} {t : TypeId} {v0 v1 v2 : Value} (h : w.heap[R]? = some (.cells #[v0, v1, v2] t (0, 0))) : w.cell? ⟨R, 0, none⟩ = some v0 ∧ w.cell? ⟨R, 1, none⟩ = some v1 ∧ w.cell? ⟨R, 2, none⟩ = some v2 ∧ R < w.heap.size := ⟨cell_blk h, cell_blk h, cell_blk h, (Array.getElem?_eq_some_iff.1 h).1⟩
theorem box3 (w : World) (v0 v1 v2 : Value) (t : TypeId) : ∃ R w0, w.alloc (.cells #[v0, v1, v2] t) = w0 ∧ w.heap.size = R ∧ Hid (w0.heap[R]? = some (.cells #[v0, v1, v2] t (0, 0)) ∧ Only (fun _ => False) w w0 ∧ R = w.heap.size) ∧ w0.cell? ⟨R, 0, none⟩ = some v0 ∧ w0.cell? ⟨R, 1, none⟩ = some v1 ∧ w0.cell? ⟨R, 2, none⟩ = some v2 ∧ R < w0.heap.size :=
  ⟨_, _, rfl, rfl, ⟨heap_alloc_new w _, (Only.refl _ _).alloc _, rfl⟩, blk_three (heap_alloc_new w _)⟩
theorem box33 (w : World) (v0 v1 v2 u0 u1 u2 : Value) (t t' : TypeId) : ∃ R b w0, (w.alloc (.cells #[v0, v1, v2] t)).alloc (.cells #[u0, u1, u2] t') = w0 ∧ w.heap.size + 1 = b ∧ w.heap.size = R ∧ Hid (w0.heap[R]? = some (.cells #[v0, v1, v2] t (0, 0)) ∧ w0.heap[b]? = some (.cells #[u0, u1, u2] t' (0, 0)) ∧ Only (fun _ => False) w w0 ∧ R = w.heap.size) ∧ R < b ∧ b < w0.heap.size := by
  have e1 : (w.alloc (.cells #[v0, v1, v2] t)).heap.size = w.heap.size + 1 := Array.size_push _
  have e2 := heap_alloc_new (w.alloc (.cells #[v0, v1, v2] t)) (.cells #[u0, u1, u2] t')
  have e3 : ((w.alloc (.cells #[v0, v1, v2] t)).alloc (.cells #[u0, u1, u2] t')).heap.size = (w.alloc (.cells #[v0, v1, v2] t)).heap.size + 1 := Array.size_push _
  rw [e1] at e2 e3
  exact ⟨_, _, _, rfl, rfl, rfl, ⟨bx_made w _ _, e2, ((Only.refl _ _).alloc _).alloc _, rfl⟩, by omega, by omega⟩
/-- an append whose run is known. -/
theorem wpList_append_run {ops : Array Oper} {rest : List Oper} {o : Oper} {a : Act} {w : World} {Q : Exit → Act → World → Prop} (hgd : o.guard = none) (s x : Operand) (t t' : TypeId)
    (hop : o.op = .call { callee := .builtin .append, args := #[s, x], argTypes := #[t, t'] }) (v u : Value) (hs : a.eval s = v) (hx : a.eval x = u) (r : Value) (w' : World) (hr : (Builtin.append_ #[t, t'] o.type #[v, u]).run Try.prog w = .ok r w')
    (h : wpList Try.prog ops Q rest (a.put o.dst r) w') : wpList Try.prog ops Q (o :: rest) a w :=
  wpList_plain hgd fun _ hK => by
    unfold Oper.wp execOp
    simp only [hop, resolve, invoke, builtin, Sem.run_bind, Sem.run_pure, Result.andThen_ok, List.map_toArray, List.map_cons, List.map_nil, hs, hx, hr]
    exact hK _ _ h
/-- slices.Grow of nil. -/
theorem grow_run (n : Nat) (w : World) (h0 : 0 < n) (hn : n ≤ 1000000) (ty : TypeId) : ∃ c w', (Builtin.append_ #[36, 3] ty #[.slice none 0 0, .int .i64 (n : Int)]).run Try.prog w = .ok (.slice (some ⟨w.heap.size, 0, none⟩) n c) w' ∧ n ≤ c ∧ c ≤ maxLen ∧ w'.ownsRow w.heap.size 5 1 (.slice (some ⟨w.heap.size, 0, none⟩) 0 c) 0 (u8s []) ∧ Only (fun _ => False) w w' := by
  obtain ⟨i5, g5, g50, g51, g52⟩ := info_parts info5
  have hr := Lib.run_append_grow_zeros w 36 3 ty 5 i5 _ .i64 .i64 Try.underlying36 Try.underlying3 g5 g50 none 0 0 [] (by rw [g51]; exact run_firstCells_none w.drew 1 0 0 0) n h0 (by omega) (by omega) (by omega) (by rw [g52]; omega) (by rw [g52]; exact growslice_fits (by omega) (by omega))
  rw [Nat.zero_add] at hr
  have hge : n ≤ grownCap w n 0 5 := grownCap_ge w _ _ _
  have hle := grownCap_le_maxLen w n 0 5 (by unfold maxLen; omega)
  refine ⟨_, _, hr, hge, hle, ⟨rfl, Or.inr ⟨w.heap.size, _, _, rfl, Nat.le_refl _, heap_alloc_new w.drew _, Nat.zero_le _, hle, ?_, rfl⟩⟩, ((Only.refl _ w).drew).alloc _⟩
  have e1 : (Value.int IntKind.u8 0).cells.size = 1 := rfl
  have e0 : (#[] : Array Value).size = 0 := rfl
  rw [Array.size_append, Array.size_append, size_zeroCells, size_zeroCells, e1, e0]
  omega
end Go.Proofs.Ytegoadhnilmchaa

