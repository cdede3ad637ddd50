/-
  A string's bytes, appended to a row of bytes.
-/
import Derived.Test.YtmhnghkodneodaaUg
import Derived.Laws.IdiomStrings
import Derived.Deep.Upon
namespace Go.Proofs.Ytmhnghkodneodaa
open Go.RowKit Go.Maps
set_option linter.unusedVariables false
set_option linter.unusedSimpArgs false
/-- cells put one behind the other. -/
def putAll (cs : Array Value) : Nat → List Value → Array Value
  | _, [] => cs
  | o, v :: r => putAll (cs.setIfInBounds o v) (o + 1) r
theorem putAll_size : ∀ (vs : List Value) (o : Nat) (cs : Array Value), (putAll cs o vs).size = cs.size
  | [], _, _ => rfl
  | v :: r, o, cs => by unfold putAll; rw [putAll_size r]; simp
theorem putAll_take : ∀ (vs : List Value) (o : Nat) (cs : Array Value), o + vs.length ≤ cs.size → (putAll cs o vs).toList.take (o + vs.length) = cs.toList.take o ++ vs
  | [], o, cs, _ => by simp [putAll]
  | v :: r, o, cs, h => by
    simp only [List.length_cons] at h
    have ih := putAll_take r (o + 1) (cs.setIfInBounds o v) (by simp; omega)
    unfold putAll
    simp only [List.length_cons]
    rw [show o + (r.length + 1) = o + 1 + r.length by omega, ih]
    have e : (cs.setIfInBounds o v).toList.take (o + 1) = cs.toList.take o ++ [v] := by
      rw [Array.toList_setIfInBounds]
      apply List.ext_getElem?
      intro j
      rw [List.getElem?_take]
      by_cases hj : j < o
      · rw [if_pos (by omega), List.getElem?_set, if_neg (by omega), List.getElem?_append_left (by simp; omega), List.getElem?_take, if_pos hj]
      · by_cases hjo : j = o
        · subst hjo
          rw [if_pos (by omega), List.getElem?_set, if_pos rfl, if_pos (by simp; omega), List.getElem?_append_right (by simp; omega)]
          simp
          have : min j cs.size = j := by omega
          rw [this, Nat.sub_self]
          rfl
        · rw [if_neg (by omega), List.getElem?_eq_none (by simp; omega)]
    rw [e, List.append_assoc]
    rfl
theorem heap_setCells_at : ∀ (vs : List Value) (o : Nat) (w : World) (b : Nat) (cs : Array Value) (t : TypeId) (z : Nat × Nat), w.heap[b]? = some (.cells cs t z) → (w.setCells b o vs).heap[b]? = some (.cells (putAll cs o vs) t z)
  | [], _, _, _, _, _, _, h => h
  | v :: r, o, w, b, cs, t, z, h => heap_setCells_at r (o + 1) _ b _ t z (heap_setCell_at h v)
theorem only_setCells : ∀ (vs : List Value) (o : Nat) (w : World) (b : Nat), Only (fun g => g = b) w (w.setCells b o vs)
  | [], _, w, _ => Only.refl _ w
  | v :: r, o, w, b => ((Only.refl (fun g => g = b) w).setCell (p := ⟨b, o, none⟩) rfl v).trans (only_setCells r (o + 1) _ b)
/-- a string's bytes behind a row of bytes of one's own. -/
theorem run_append_str (w : World) (ty : TypeId) (base : Nat) (v : Value) (n : Nat) (xs : List Value) (s : ByteArray) (hown : w.ownsRow base 5 1 v n xs) (hs : 0 < s.size) (hn : n + s.size ≤ 1000000) (hbase : base ≤ w.heap.size) :
    ∃ g cap w', (Builtin.append_ #[22, 9] ty #[v, .string s]).run Try.prog w = .ok (.slice (some ⟨g, 0, none⟩) (n + s.size) cap) w' ∧ w'.ownsRow base 5 1 (.slice (some ⟨g, 0, none⟩) (n + s.size) cap) (n + s.size) (xs ++ byteCells s) ∧ Only (fun b => base ≤ b) w w' := by
  obtain ⟨i, hi, hz, hsz, hby⟩ := info_parts info5
  have hsrc : Src Try.prog i.size 9 (.string s) s.size (byteCells s) w := by rw [hsz]; exact Src.ofString w Try.underlying9 s
  have hbl := byteCells_length s
  have hxl : xs.length = n := by have := hown.1; omega
  have hgrow : ∀ (ba : Option Addr) (old : Nat), old < n + s.size → (Builtin.firstCells i.size n (.slice ba n old)).run Try.prog w.drew = .ok xs.toArray w.drew → ∃ g cap w', (Builtin.append_ #[22, 9] ty #[.slice ba n old, .string s]).run Try.prog w = .ok (.slice (some ⟨g, 0, none⟩) (n + s.size) cap) w' ∧ w'.ownsRow base 5 1 (.slice (some ⟨g, 0, none⟩) (n + s.size) cap) (n + s.size) (xs ++ byteCells s) ∧ Only (fun b => base ≤ b) w w' := by
    intro ba old ho hold
    have hr := run_append_grow_src (P := Try.prog) w 22 9 ty 5 i (.int .u8 0) Try.underlying22 hi hz ba n old xs hold (.string s) s.size (byteCells s) hsrc (by omega) (by omega) (by rw [hby]; exact growslice_fits (by omega) (by omega))
    have hge := grownCap_ge w (n + s.size) old 5
    have hcm : grownCap w (n + s.size) old 5 ≤ maxLen := grownCap_le_maxLen w (n + s.size) old 5 (by unfold maxLen; omega)
    refine ⟨_, _, _, hr, ⟨by rw [List.length_append, hxl, hbl, Nat.mul_one], Or.inr ⟨w.heap.size, _, _, rfl, hbase, heap_alloc_new w.drew _, hge, hcm, ?_, ?_⟩⟩, ((Only.refl _ w).drew).alloc _⟩
    · simp only [Array.size_append, List.size_toArray, size_zeroCells, List.length_append, hxl, hbl]
      show n + s.size + (_ - (n + s.size)) * 1 = _
      omega
    · simp only [Array.toList_append, Nat.mul_one]
      rw [List.take_append_of_le_length (by simp; omega)]
      exact List.take_of_length_le (by simp; omega)
  rcases hown.2 with ⟨rfl, rfl⟩ | ⟨g, cap, cur, rfl, hbg, hg, hnc, hcm, hcs, htake⟩
  · have hx : xs = [] := List.eq_nil_of_length_eq_zero hxl
    subst hx
    exact hgrow none 0 (by omega) (by simp [Builtin.firstCells])
  · by_cases hroom : n + s.size ≤ cap
    · have hcell : ∀ j, j < (byteCells s).length → (w.cell? ⟨g, 0 + n * i.size + j, none⟩).isSome = true := fun j hj => by
        rw [cell_blk hg, hsz, Array.getElem?_eq_getElem (by omega)]
        rfl
      have hr := run_append_room_src (P := Try.prog) w 22 9 ty 5 i Try.underlying22 hi g 0 n cap (.string s) s.size (byteCells s) hsrc hroom hcell (fun j _ => fz_blk hg _)
      refine ⟨_, _, _, hr, ⟨by rw [List.length_append, hxl, hbl, Nat.mul_one], Or.inr ⟨g, cap, _, rfl, hbg, heap_setCells_at _ _ _ _ _ _ _ hg, hroom, hcm, by rw [putAll_size]; exact hcs, ?_⟩⟩, (only_setCells _ _ _ _).mono (fun b hb => by rw [hb]; exact hbg)⟩
      have ht := putAll_take (byteCells s) (0 + n * i.size) cur (by rw [hbl, hsz]; omega)
      rw [hsz, hbl] at ht
      rw [hsz, show (n + s.size) * 1 = 0 + n * 1 + s.size by omega, ht, show 0 + n * 1 = n * 1 by omega, htake]
    · refine hgrow (some ⟨g, 0, none⟩) cap (by omega) ?_
      have hol : ∀ j u, xs[j]? = some u → w.drew.cell? ((⟨g, 0, none⟩ : Addr).add j) = some u := hown.cells (g := g) rfl
      exact run_firstCells_some w.drew i.size n ⟨g, 0, none⟩ n cap xs (by rw [hsz]; omega) hol
theorem wpList_appS {ops : Array Oper} {rest : List Oper} {o : Oper} {a : Act} {w : World} {Q : Exit → Act → World → Prop} (hgd : o.guard = none) (s x : Operand)
    (hop : o.op = .call { callee := .builtin .append, args := #[s, x], argTypes := #[22, 9] }) (base : Nat) (v : Value) (n : Nat) (xs : List Value) (str : ByteArray) (hs : a.eval s = v) (hown : w.ownsRow base 5 1 v n xs) (hx : a.eval x = .string str) (h0 : 0 < str.size) (hn : n + str.size ≤ 1000000) (hbase : base ≤ w.heap.size)
    (h : ∀ g cap w', w'.ownsRow base 5 1 (.slice (some ⟨g, 0, none⟩) (n + str.size) cap) (n + str.size) (xs ++ byteCells str) → Only (fun b => base ≤ b) w w' → wpList Try.prog ops Q rest (a.put o.dst (.slice (some ⟨g, 0, none⟩) (n + str.size) cap)) w') : wpList Try.prog ops Q (o :: rest) a w :=
  wpList_plain hgd fun _ hK => by
    obtain ⟨g, cap, w', hr, h2, h3⟩ := run_append_str w o.type base v n xs str hown h0 hn hbase
    unfold Oper.wp execOp
    simp only [hop, resolve, invoke, builtin, Sem.run_bind, Sem.run_pure, Result.andThen_ok, List.map_toArray, List.map_cons, List.map_nil, hs, hx, hr]
    exact hK _ _ (h g cap w' h2 h3)
end Go.Proofs.Ytmhnghkodneodaa
