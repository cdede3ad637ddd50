/-
  Expressions in memory: where an expression's kids lie; what keeps them; lists that grow.
-/
import Derived.Test.YtfbcijnacbfjpaaSome2
import Derived.Maps.AppendAt
namespace Go.Proofs.Ytfbcijnacbfjpaa
open Go.RowKit Go.Maps
set_option linter.unusedVariables false
set_option linter.unusedSimpArgs false

mutual
/-- v is the expression, its kids in blocks of F. -/
def Tr (w : World) (F : Nat → Prop) : Rl.Ex → Value → Prop
  | .mk op set kids, v => ∃ (a : Option Addr) (cap : Nat), v = .agg #[.int .u8 op, .int .u32 set, .slice a kids.length cap] ∧ kids.length ≤ cap ∧
      (kids ≠ [] → ∃ b cs z, a = some ⟨b, 0, none⟩ ∧ F b ∧ w.heap[b]? = some (.cells cs 49 z) ∧ Trs w F kids (fun j => cs[j]?))
/-- these cells are these expressions. -/
def Trs (w : World) (F : Nat → Prop) : List Rl.Ex → (Nat → Option Value) → Prop
  | [], _ => True
  | e :: es, c => (∃ o s k, c 0 = some o ∧ c 1 = some s ∧ c 2 = some k ∧ Tr w F e (.agg #[o, s, k])) ∧ Trs w F es (fun j => c (j + 3))
end
theorem Tr.form {w : World} {F : Nat → Prop} {e : Rl.Ex} {v : Value} (h : Tr w F e v) : ∃ op set a n cap, v = .agg #[.int .u8 op, .int .u32 set, .slice a n cap] := by
  obtain ⟨op, set, kids⟩ := e
  unfold Tr at h
  obtain ⟨a, cap, h1, _⟩ := h
  exact ⟨op, set, a, kids.length, cap, h1⟩
mutual
theorem Tr.keepT {w w' : World} {F F' : Nat → Prop} (hk : ∀ b, F b → b < w.heap.size → (∃ cs z, w.heap[b]? = some (.cells cs 49 z)) → F' b ∧ w'.heap[b]? = w.heap[b]?) : ∀ (e : Rl.Ex) (v : Value), Tr w F e v → Tr w' F' e v
  | .mk op set kids, v, h => by
    unfold Tr at h ⊢
    obtain ⟨a, cap, h1, hc, h2⟩ := h
    refine ⟨a, cap, h1, hc, fun hn => ?_⟩
    obtain ⟨b, cs, z, h3, h4, h5, h6⟩ := h2 hn
    have hb := hk b h4 (Array.getElem?_eq_some_iff.1 h5).1 ⟨cs, z, h5⟩
    exact ⟨b, cs, z, h3, hb.1, hb.2.trans h5, Trs.keepT hk kids _ h6⟩
theorem Trs.keepT {w w' : World} {F F' : Nat → Prop} (hk : ∀ b, F b → b < w.heap.size → (∃ cs z, w.heap[b]? = some (.cells cs 49 z)) → F' b ∧ w'.heap[b]? = w.heap[b]?) : ∀ (es : List Rl.Ex) (c : Nat → Option Value), Trs w F es c → Trs w' F' es c
  | [], _, _ => by unfold Trs; trivial
  | e :: es, c, h => by
    unfold Trs at h ⊢
    obtain ⟨⟨o, s, k, h0, h1, h2, h3⟩, h4⟩ := h
    exact ⟨⟨o, s, k, h0, h1, h2, Tr.keepT hk e _ h3⟩, Trs.keepT hk es _ h4⟩
end
theorem Tr.keep {w w' : World} {F F' : Nat → Prop} (hk : ∀ b, F b → b < w.heap.size → F' b ∧ w'.heap[b]? = w.heap[b]?) (e : Rl.Ex) (v : Value) (h : Tr w F e v) : Tr w' F' e v := Tr.keepT (fun b h1 h2 _ => hk b h1 h2) e v h
theorem Trs.keep {w w' : World} {F F' : Nat → Prop} (hk : ∀ b, F b → b < w.heap.size → F' b ∧ w'.heap[b]? = w.heap[b]?) (es : List Rl.Ex) (c : Nat → Option Value) (h : Trs w F es c) : Trs w' F' es c := Trs.keepT (fun b h1 h2 _ => hk b h1 h2) es c h
theorem Trs.cong {w : World} {F : Nat → Prop} : ∀ (es : List Rl.Ex) {c c' : Nat → Option Value}, (∀ j, j < 3 * es.length → c j = c' j) → Trs w F es c → Trs w F es c'
  | [], _, _, _, _ => by unfold Trs; trivial
  | e :: es, c, c', hc, h => by
    unfold Trs at h ⊢
    simp only [List.length_cons] at hc
    obtain ⟨⟨o, s, k, h0, h1, h2, h3⟩, h4⟩ := h
    exact ⟨⟨o, s, k, (hc 0 (by omega)).symm.trans h0, (hc 1 (by omega)).symm.trans h1, (hc 2 (by omega)).symm.trans h2, h3⟩, Trs.cong es (fun j hj => hc (j + 3) (by omega)) h4⟩
theorem Trs.snoc {w : World} {F : Nat → Prop} {e : Rl.Ex} {o s k : Value} (he : Tr w F e (.agg #[o, s, k])) : ∀ (es : List Rl.Ex) (xs : List Value), xs.length = 3 * es.length → Trs w F es (fun j => xs[j]?) → Trs w F (es ++ [e]) (fun j => (xs ++ [o, s, k])[j]?)
  | [], xs, hl, _ => by
    obtain rfl : xs = [] := List.length_eq_zero_iff.1 (by simpa using hl)
    show Trs w F [e] _
    unfold Trs
    exact ⟨⟨o, s, k, rfl, rfl, rfl, he⟩, by unfold Trs; trivial⟩
  | d :: es, xs, hl, h => by
    rw [List.cons_append]
    unfold Trs at h ⊢
    simp only [List.length_cons] at hl
    match xs, hl, h with
    | a :: b :: c :: xs, hl, h =>
      obtain ⟨⟨o1, s1, k1, h0, h1, h2, h3⟩, h4⟩ := h
      refine ⟨⟨o1, s1, k1, h0, h1, h2, h3⟩, ?_⟩
      have := Trs.snoc he es xs (by simp at hl; omega) (Trs.cong es (fun j _ => by simp) h4)
      exact Trs.cong (es ++ [e]) (fun j _ => by simp) this
    | [_, _], hl, _ => simp at hl; omega
    | [_], hl, _ => simp at hl; omega
    | [], hl, _ => simp at hl
theorem Trs.one {w : World} {F : Nat → Prop} {e : Rl.Ex} {xs : List Value} (h : Trs w F [e] (fun j => xs[j]?)) (hl : xs.length = 3) : ∃ o s k, xs = [o, s, k] ∧ Tr w F e (.agg #[o, s, k]) := by
  unfold Trs at h
  obtain ⟨⟨o, s, k, h0, h1, h2, h3⟩, _⟩ := h
  match xs, hl, h0, h1, h2 with
  | [a, b, c], _, h0, h1, h2 =>
    simp at h0 h1 h2
    subst h0 h1 h2
    exact ⟨_, _, _, rfl, h3⟩
/-- a list of expressions that the call made, as an expression's kids. -/
theorem Tr.row {w : World} {F F' : Nat → Prop} {base : Nat} {v : Value} {es : List Rl.Ex} {xs : List Value} (op : Int) (ho : w.ownsRow base 49 3 v es.length xs) (ht : Trs w F es (fun j => xs[j]?)) (hv : ∀ g, v.ownBlock = some g → F' g) (hF : ∀ b, F b → F' b) (hne : es ≠ []) :
    Tr w F' (.mk op 0 es) (.agg #[.int .u8 op, .int .u32 0, v]) := by
  obtain ⟨hl, ⟨_, h0⟩ | ⟨g, cap, cur, rfl, h1, h2, h3, h4, h5, h6⟩⟩ := ho
  · exact absurd (List.length_eq_zero_iff.1 h0) hne
  · unfold Tr
    refine ⟨some ⟨g, 0, none⟩, cap, rfl, h3, fun _ => ⟨g, cur, (0, 0), rfl, hv g rfl, h2, ?_⟩⟩
    have h7 := Trs.keep (w' := w) (F' := F') (fun b hb _ => ⟨hF b hb, rfl⟩) es _ ht
    refine Trs.cong es (fun j hj => ?_) h7
    show xs[j]? = cur[j]?
    rw [← h6, List.getElem?_take, if_pos (by omega)]
    simp
theorem info50 : (Try.prog.info? 49).map (fun i => (i.zero, i.size, i.bytes)) = some (some (.agg #[.int .u8 0, .int .u32 0, .slice none 0 0]), 3, 32) := by kernel_rfl
theorem info_parts {P : Program} {e : TypeId} {z : Value} {n b : Nat} (h : (P.info? e).map (fun i => (i.zero, i.size, i.bytes)) = some (some z, n, b)) : ∃ i, P.info? e = some i ∧ i.zero = some z ∧ i.size = n ∧ i.bytes = b := by
  cases hi : P.info? e with
  | none => rw [hi] at h; cases h
  | some i =>
    rw [hi] at h
    simp only [Option.map_some, Option.some.injEq, Prod.mk.injEq] at h
    exact ⟨i, rfl, h.1, h.2.1, h.2.2⟩
theorem ex_news (wr : World) (o s : Int) (k : Value) : ∀ j u, [Value.int .u8 o, Value.int .u32 s, k][j]? = some u → (wr.alloc (.cells #[.int .u8 o, .int .u32 s, k] 49)).cell? ((⟨wr.heap.size, 0, none⟩ : Addr).add j) = some u := by
  intro j u hj
  rw [Addr.add_mid, Nat.zero_add, cell_of_row _ _ _ _ _ _ (heap_alloc_new _ _)]
  simpa using hj
theorem ex_cells (o s : Int) (a : Option Addr) (n c : Nat) : ∀ u ∈ [Value.int .u8 o, Value.int .u32 s, Value.slice a n c], u.oneCell' = true := by
  intro u hu
  simp at hu
  rcases hu with rfl | rfl | rfl <;> rfl
/-- an expression in a variable of its own. -/
def Xb (w : World) (b : Nat) (o s k : Value) : Prop := w.heap[b]? = some (.cells #[o, s, k] 49 (0, 0))
theorem Xb.new (w : World) (o s k : Value) : Xb (w.alloc (.cells #[o, s, k] 49)) w.heap.size o s k := heap_alloc_new _ _
theorem Xb.fz {w : World} {b : Nat} {o s k : Value} (h : Xb w b o s k) (j : Nat) : w.frozen? ⟨b, j, none⟩ = false := by simp [World.frozen?, show w.heap[b]? = _ from h]
theorem Xb.c0 {w : World} {b : Nat} {o s k : Value} (h : Xb w b o s k) : w.cell? ⟨b, 0, none⟩ = some o := (cell_of_row _ _ _ _ _ _ h).trans rfl
theorem Xb.c1 {w : World} {b : Nat} {o s k : Value} (h : Xb w b o s k) : w.cell? ⟨b, 1, none⟩ = some s := (cell_of_row _ _ _ _ _ _ h).trans rfl
theorem Xb.c2 {w : World} {b : Nat} {o s k : Value} (h : Xb w b o s k) : w.cell? ⟨b, 2, none⟩ = some k := (cell_of_row _ _ _ _ _ _ h).trans rfl
theorem Xb.lt {w : World} {b : Nat} {o s k : Value} (h : Xb w b o s k) : b < w.heap.size := (Array.getElem?_eq_some_iff.1 h).1
theorem Xb.only {w w' : World} {b : Nat} {o s k : Value} {P : Nat → Prop} (h : Xb w b o s k) (ho : Only P w w') (hn : ¬ P b) : Xb w' b o s k := (ho.block b h.lt hn).trans h
theorem Xb.alloc {w : World} {b : Nat} {o s k : Value} (h : Xb w b o s k) (ob : Obj) : Xb (w.alloc ob) b o s k := (Below.heap_alloc _ _ _ h.lt).trans h
/-- how an expression's reading ends. -/
def exprP (rb : Nat) (S : ByteArray) (x : Rd) (w : World) (F : Rl.R (Rl.Ex × List Rl.Tk × Nat)) (e : Ending) (w' : World) : Prop :=
  match F with
  | .error f => e = .panicked (thr f.1 f.2) ∧ Only (· = rb) w w'
  | .ok (ex, ts, p) => ∃ v, e = .returned v ∧ Tr w' (fun b => w.heap.size ≤ b) ex v ∧ In w' rb S (x.withPl p) ts ∧ Only (· = rb) w w'
/-- how often ends: the expression that it was given has its kids in blocks of F. -/
def oftP (rb : Nat) (S : ByteArray) (x : Rd) (F : Nat → Prop) (w : World) (R : Rl.R (Rl.Ex × List Rl.Tk)) (e : Ending) (w' : World) : Prop :=
  match R with
  | .error f => e = .panicked (thr f.1 f.2) ∧ Only (· = rb) w w'
  | .ok (ex, ts) => ∃ v, e = .returned v ∧ Tr w' (fun b => F b ∨ w.heap.size ≤ b) ex v ∧ In w' rb S x ts ∧ Only (· = rb) w w'
end Go.Proofs.Ytfbcijnacbfjpaa
