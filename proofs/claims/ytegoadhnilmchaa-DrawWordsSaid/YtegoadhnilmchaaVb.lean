/-
  Slices that are read, in plain words; clusters as cells; blocks that were made.
-/
import Derived.Test.YtegoadhnilmchaaBs
import Derived.Test.YtegoadhnilmchaaCe0
import Derived.Deep.QuietTactic
import Derived.BigQuiet
import Derived.Deep.OwnRows
namespace Go.Proofs.Ytegoadhnilmchaa
open Go.RowKit Go.Maps
set_option linter.unusedVariables false
set_option linter.unusedSimpArgs false
/-- a slice that is read: these cells, one behind the other. -/
def Vw (w : World) (a : Option Addr) (xs : List Value) : Prop := xs = [] ∨ ∃ b off, a = some ⟨b, off, none⟩ ∧ ∀ j u, xs[j]? = some u → w.cell? ⟨b, off + j, none⟩ = some u
theorem Vw.keep {w w' : World} {a : Option Addr} {xs : List Value} (h : Vw w a xs) (ho : Only (fun _ => False) w w') : Vw w' a xs := by
  rcases h with h | ⟨b, off, e, hc⟩
  · exact Or.inl h
  · exact Or.inr ⟨b, off, e, fun j u hj => keep0 ho (hc j u hj)⟩
theorem keepS {S : Nat → Prop} {w w' : World} {b k : Nat} {v : Value} (h : Only S w w') (hc : w.cell? ⟨b, k, none⟩ = some v) (hb : ¬ S b) : w'.cell? ⟨b, k, none⟩ = some v := (World.cell?_of_block (a := ⟨b, k, none⟩) (h.block b (World.block_lt_of_cell? w _ hc) hb)).trans hc
theorem Vw.cells {w : World} {a : Option Addr} {xs : List Value} (h : Vw w a xs) (hx : 0 < xs.length) : ∃ b off, a = some ⟨b, off, none⟩ ∧ b < w.heap.size ∧ ∀ j u, xs[j]? = some u → w.cell? ⟨b, off + j, none⟩ = some u := by
  rcases h with h | ⟨b, off, e, hc⟩
  · subst h; simp at hx
  · exact ⟨b, off, e, World.block_lt_of_cell? w ⟨b, off + 0, none⟩ (hc 0 _ (List.getElem?_eq_getElem hx)), hc⟩
theorem Vw.nil (w : World) (a : Option Addr) : Vw w a [] := Or.inl rfl
theorem own_vw {w : World} {base e size n c : Nat} {a : Option Addr} {xs : List Value} (h : w.ownsRow base e size (.slice a n c) n xs) : Vw w a xs := by
  obtain ⟨hl, ⟨hv, h0⟩ | ⟨g, cap, cur, hv, hb, hh, h1, h2, h3, h4⟩⟩ := h
  · exact Or.inl (List.eq_nil_of_length_eq_zero (by rw [hl, h0, Nat.zero_mul]))
  · injection hv with e1
    refine Or.inr ⟨g, 0, e1, fun j u hj => ?_⟩
    rw [Nat.zero_add]
    refine (cell_of_row _ _ _ _ _ _ hh).trans ?_
    rw [← h4, List.getElem?_take] at hj
    split at hj
    · rw [Array.getElem?_toList] at hj
      exact hj
    · cases hj
/-- numbers of eight bits as cells. -/
def u8s (L : List Nat) : List Value := L.map fun (x : Nat) => .int .u8 (x : Int)
theorem u8s_len (L : List Nat) : (u8s L).length = L.length := by simp [u8s]
theorem u8s_snoc (L : List Nat) (x : Nat) : u8s (L ++ [x]) = u8s L ++ [.int .u8 (x : Int)] := by simp [u8s]
theorem u8s_at {L : List Nat} {k x : Nat} (h : L[k]? = some x) : (u8s L)[k]? = some (.int .u8 (x : Int)) := by
  unfold u8s
  rw [List.getElem?_map, h]; rfl
theorem natI_get {L : List Nat} {k x : Nat} (h : L[k]? = some x) : (natI L)[k]? = some (.int .i64 (x : Int)) := by
  unfold natI
  rw [List.getElem?_map, h]; rfl
theorem u8s_one (L : List Nat) : ∀ u ∈ u8s L, u.oneCell' = true := by
  intro u hu
  obtain ⟨x, _, rfl⟩ := List.mem_map.1 hu
  rfl
theorem take_snoc {α : Type} {L : List α} {i : Nat} {x : α} (h : L[i]? = some x) : L.take (i + 1) = L.take i ++ [x] := by
  obtain ⟨hl, he⟩ := List.getElem?_eq_some_iff.1 h
  rw [List.take_add_one, h]
  rfl
theorem info3 : (Try.prog.info? 3).map (fun i => (i.zero, i.size, i.bytes)) = some (some (.int .i64 0), 1, 8) := by kernel_rfl
theorem infoOpp : (Try.prog.info? 41).map (fun i => (i.zero, i.size, i.bytes)) = some (some (.int .u8 0), 1, 1) := by kernel_rfl
theorem infoClu : (Try.prog.info? 53).map (fun i => (i.zero, i.size, i.bytes)) = some (some (.agg #[.int .i64 0, .int .i64 0, .int .i64 0, .int .u8 0]), 4, 32) := by kernel_rfl
theorem own_base2 {w : World} {base base' e size n : Nat} {v : Value} {xs : List Value} (h : w.ownsRow base e size v n xs) (hb : base' ≤ base) : w.ownsRow base' e size v n xs := by
  obtain ⟨hl, h | ⟨g, cap, cur, hv, hg, h1⟩⟩ := h
  · exact ⟨hl, Or.inl h⟩
  · exact ⟨hl, Or.inr ⟨g, cap, cur, hv, Nat.le_trans hb hg, h1⟩⟩
theorem own_cap {w : World} {base e size n c : Nat} {a : Option Addr} {xs : List Value} (h : w.ownsRow base e size (.slice a n c) n xs) : c ≤ maxLen := by
  obtain ⟨_, ⟨hv, h0⟩ | ⟨g, cap, cur, hv, _, _, h1, h2, _⟩⟩ := h
  · injection hv with _ _ e; rw [e]; exact Nat.zero_le _
  · injection hv with _ _ e; rw [e]; exact h2
theorem vw_blk {w : World} {b : Nat} {xs : List Value} {t : TypeId} (h : w.heap[b]? = some (.cells xs.toArray t (0, 0))) : Vw w (some ⟨b, 0, none⟩) xs := Or.inr ⟨b, 0, rfl, fun j u hj => by rw [Nat.zero_add, cell_blk h]; simpa using hj⟩
theorem blk_keep {w w' : World} {R : Nat} {o : Obj} (ho : Only (fun _ => False) w w') (h : w.heap[R]? = some o) : w'.heap[R]? = some o := (ho.block R (Array.getElem?_eq_some_iff.1 h).1 (fun h => h)).trans h
theorem blk_two {w : World} {R : Nat} {t : TypeId} {v0 v1 : Value} (h : w.heap[R]? = some (.cells #[v0, v1] t (0, 0))) : w.cell? ⟨R, 0, none⟩ = some v0 ∧ w.cell? ⟨R, 1, none⟩ = some v1 ∧ R < w.heap.size := ⟨cell_blk h, cell_blk h, (Array.getElem?_eq_some_iff.1 h).1⟩
theorem blk3 (W : World) (o1 o2 : Obj) (o3 : Obj) : (((W.alloc o1).alloc o2).alloc o3).heap[W.heap.size + 2]? = some o3 ∧ (((W.alloc o1).alloc o2).alloc o3).heap.size = W.heap.size + 3 := by
  have a1 : (W.alloc o1).heap.size = W.heap.size + 1 := Array.size_push _
  have a2 : ((W.alloc o1).alloc o2).heap.size = (W.alloc o1).heap.size + 1 := Array.size_push _
  have a3 : (((W.alloc o1).alloc o2).alloc o3).heap.size = ((W.alloc o1).alloc o2).heap.size + 1 := Array.size_push _
  have b := heap_alloc_new ((W.alloc o1).alloc o2) o3
  rw [a2, a1] at b
  exact ⟨b, by omega⟩
theorem blk1 (W : World) (o1 : Obj) : (W.alloc o1).heap[W.heap.size]? = some o1 ∧ (W.alloc o1).heap.size = W.heap.size + 1 := ⟨heap_alloc_new W _, Array.size_push _⟩
theorem size_alloc1 (w : World) (o : Obj) : (w.alloc o).heap.size = w.heap.size + 1 := Array.size_push _
/-- clusters as cells. -/
def ctC (C : List Ct) : List Value := C.flatMap fun c => [.int .i64 (c.pl : Int), .int .i64 (c.len : Int), .int .i64 c.cells, .int .u8 (c.kind : Int)]
theorem ctC_len : ∀ S : List Ct, (ctC S).length = S.length * 4
  | [] => rfl
  | x :: L => by
    show ([Value.int .i64 (x.pl : Int), Value.int .i64 (x.len : Int), Value.int .i64 x.cells, Value.int .u8 (x.kind : Int)] ++ ctC L).length = _
    rw [List.length_append, ctC_len L]
    simp
    omega
theorem ctC_append (L M : List Ct) : ctC (L ++ M) = ctC L ++ ctC M := by unfold ctC; rw [List.flatMap_append]
theorem ctC_at : ∀ (L : List Ct) (k : Nat) (x : Ct), L[k]? = some x → (ctC L)[k * 4]? = some (.int .i64 (x.pl : Int)) ∧ (ctC L)[k * 4 + 1]? = some (.int .i64 (x.len : Int)) ∧ (ctC L)[k * 4 + 2]? = some (.int .i64 x.cells) ∧ (ctC L)[k * 4 + 3]? = some (.int .u8 (x.kind : Int)) := by
  intro L
  induction L with
  | nil => intro k x h; simp at h
  | cons y L ih =>
    intro k x h
    have e : ctC (y :: L) = [.int .i64 (y.pl : Int), .int .i64 (y.len : Int), .int .i64 y.cells, .int .u8 (y.kind : Int)] ++ ctC L := rfl
    rw [e]
    cases k with
    | zero => simp at h; subst h; exact ⟨rfl, rfl, rfl, rfl⟩
    | succ k =>
      have := ih k x (by simpa using h)
      rw [show (k + 1) * 4 = k * 4 + 4 by omega]
      exact ⟨this.1, this.2.1, this.2.2.1, this.2.2.2⟩
theorem Vw.cluster {w : World} {a : Option Addr} {S : List Ct} {k : Nat} {s : Ct} (h : Vw w a (ctC S)) (hk : S[k]? = some s) : ∃ b off, a = some ⟨b, off, none⟩ ∧ b < w.heap.size ∧ w.cell? ⟨b, off + k * 4, none⟩ = some (.int .i64 (s.pl : Int)) ∧ w.cell? ⟨b, off + k * 4 + 1, none⟩ = some (.int .i64 (s.len : Int)) ∧ w.cell? ⟨b, off + k * 4 + 2, none⟩ = some (.int .i64 s.cells) ∧ w.cell? ⟨b, off + k * 4 + 3, none⟩ = some (.int .u8 (s.kind : Int)) := by
  have hl := (List.getElem?_eq_some_iff.1 hk).1
  obtain ⟨b, off, e, hb, hc⟩ := h.cells (by rw [ctC_len]; omega)
  obtain ⟨q0, q1, q2, q3⟩ := ctC_at S k s hk
  exact ⟨b, off, e, hb, hc _ _ q0, hc _ _ q1, hc _ _ q2, hc _ _ q3⟩
namespace It
def sum : List Ct → Nat
  | [] => 0
  | c :: C => c.len + sum C
end It
namespace It
theorem sum_append : ∀ (a b : List Ct), sum (a ++ b) = sum a + sum b
  | [], b => by simp [sum]
  | s :: a, b => by simp [sum, sum_append a b]; omega
end It
namespace It
theorem sum_le {C : List Ct} : ∀ k, sum (C.take k) ≤ sum C := fun k => by
  have h := sum_append (C.take k) (C.drop k)
  rw [List.take_append_drop] at h
  omega
end It
def paP (C : List Ct) (O : List Nat) (w : World) (e : Ending) (w' : World) : Prop := ∃ (aC aO : Option Addr) (cC cO : Nat), e = .returned (.agg #[.slice aC C.length cC, .slice aO O.length cO]) ∧ w'.ownsRow w.heap.size 53 4 (.slice aC C.length cC) C.length (ctC C) ∧ w'.ownsRow w.heap.size 41 1 (.slice aO O.length cO) O.length (u8s O) ∧ Only (fun _ => False) w w'
end Go.Proofs.Ytegoadhnilmchaa

