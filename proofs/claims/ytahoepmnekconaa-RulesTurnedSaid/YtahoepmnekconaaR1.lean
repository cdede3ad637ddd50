/-
  The document's own parser (stanzaref03) in memory: bad.
-/
import Derived.Test.YtahoepmnekconaaRead
import Derived.Deep.LoopGhost
namespace Go.Proofs.Ytahoepmnekconaa
open Go.RowKit
set_option linter.unusedVariables false
set_option linter.unusedSimpArgs false

/-- what that parser holds besides its text, its place and its fault. -/
structure Rq where
  vC : Value
  j : Int
  a : Int
  vT : Value
  vL : Value
  vN : Value
  vB : Value
  pl : Int
  dp : Int
def rqC (S : ByteArray) (i : Int) (x : Rq) (c t : Int) : Array Value := #[.string S, .int .i64 i, x.vC, .int .u32 x.j, .int .u32 x.a, x.vT, x.vL, x.vN, x.vB, .int .i64 x.pl, .int .i64 x.dp, .int .i64 c, .int .i64 t]
def Rpr (w : World) (rb : Nat) (S : ByteArray) (i : Int) (x : Rq) (c t : Int) : Prop := w.heap[rb]? = some (.cells (rqC S i x c t) 71 (0, 0))
section
variable {w : World} {rb : Nat} {S : ByteArray} {i : Int} {x : Rq} {c t : Int}
theorem Rpr.cell (h : Rpr w rb S i x c t) (k : Nat) {v : Value} (hv : (rqC S i x c t)[k]? = some v) : w.cell? ⟨rb, k, none⟩ = some v := (cell_of_row _ _ _ _ _ _ h).trans hv
theorem Rpr.lt (h : Rpr w rb S i x c t) : rb < w.heap.size := (Array.getElem?_eq_some_iff.1 h).1
theorem Rpr.c0 (h : Rpr w rb S i x c t) : w.cell? ⟨rb, 0, none⟩ = some (.string S) := h.cell 0 rfl
theorem Rpr.c1 (h : Rpr w rb S i x c t) : w.cell? ⟨rb, 1, none⟩ = some (.int .i64 i) := h.cell 1 rfl
theorem Rpr.c2 (h : Rpr w rb S i x c t) : w.cell? ⟨rb, 2, none⟩ = some x.vC := h.cell 2 rfl
theorem Rpr.c3 (h : Rpr w rb S i x c t) : w.cell? ⟨rb, 3, none⟩ = some (.int .u32 x.j) := h.cell 3 rfl
theorem Rpr.c4 (h : Rpr w rb S i x c t) : w.cell? ⟨rb, 4, none⟩ = some (.int .u32 x.a) := h.cell 4 rfl
theorem Rpr.c5 (h : Rpr w rb S i x c t) : w.cell? ⟨rb, 5, none⟩ = some x.vT := h.cell 5 rfl
theorem Rpr.c6 (h : Rpr w rb S i x c t) : w.cell? ⟨rb, 6, none⟩ = some x.vL := h.cell 6 rfl
theorem Rpr.c7 (h : Rpr w rb S i x c t) : w.cell? ⟨rb, 7, none⟩ = some x.vN := h.cell 7 rfl
theorem Rpr.c8 (h : Rpr w rb S i x c t) : w.cell? ⟨rb, 8, none⟩ = some x.vB := h.cell 8 rfl
theorem Rpr.c9 (h : Rpr w rb S i x c t) : w.cell? ⟨rb, 9, none⟩ = some (.int .i64 x.pl) := h.cell 9 rfl
theorem Rpr.c10 (h : Rpr w rb S i x c t) : w.cell? ⟨rb, 10, none⟩ = some (.int .i64 x.dp) := h.cell 10 rfl
theorem Rpr.c11 (h : Rpr w rb S i x c t) : w.cell? ⟨rb, 11, none⟩ = some (.int .i64 c) := h.cell 11 rfl
theorem Rpr.c12 (h : Rpr w rb S i x c t) : w.cell? ⟨rb, 12, none⟩ = some (.int .i64 t) := h.cell 12 rfl
theorem Rpr.fz (h : Rpr w rb S i x c t) (k : Nat) : w.frozen? ⟨rb, k, none⟩ = false := by simp [World.frozen?, show w.heap[rb]? = _ from h]
theorem Rpr.only {w' : World} {P : Nat → Prop} (h : Rpr w rb S i x c t) (ho : Only P w w') (hn : ¬ P rb) : Rpr w' rb S i x c t := (ho.block rb h.lt hn).trans h
theorem Rpr.alloc (h : Rpr w rb S i x c t) (o : Obj) : Rpr (w.alloc o) rb S i x c t := (Below.heap_alloc _ _ _ h.lt).trans h
theorem Rpr.drewN (h : Rpr w rb S i x c t) (n : Nat) : Rpr (w.drewN n) rb S i x c t := h
theorem Rpr.drew (h : Rpr w rb S i x c t) : Rpr w.drew rb S i x c t := h
theorem Rpr.setOther (h : Rpr w rb S i x c t) {p : Addr} (hp : p.block ≠ rb) (v : Value) : Rpr (w.setCell p v) rb S i x c t := (Below.heap_setCell _ _ _ _ (fun e => hp e.symm)).trans h
theorem Rpr.set1 (h : Rpr w rb S i x c t) (i' : Int) : Rpr (w.setCell ⟨rb, 1, none⟩ (.int .i64 i')) rb S i' x c t := heap_setCell_at h _
theorem Rpr.set3 (h : Rpr w rb S i x c t) (j : Int) : Rpr (w.setCell ⟨rb, 3, none⟩ (.int .u32 j)) rb S i { x with j := j } c t := heap_setCell_at h _
theorem Rpr.set4 (h : Rpr w rb S i x c t) (a : Int) : Rpr (w.setCell ⟨rb, 4, none⟩ (.int .u32 a)) rb S i { x with a := a } c t := heap_setCell_at h _
theorem Rpr.set2 (h : Rpr w rb S i x c t) (v : Value) : Rpr (w.setCell ⟨rb, 2, none⟩ v) rb S i { x with vC := v } c t := heap_setCell_at h _
theorem Rpr.set5 (h : Rpr w rb S i x c t) (v : Value) : Rpr (w.setCell ⟨rb, 5, none⟩ v) rb S i { x with vT := v } c t := heap_setCell_at h _
theorem Rpr.set6 (h : Rpr w rb S i x c t) (v : Value) : Rpr (w.setCell ⟨rb, 6, none⟩ v) rb S i { x with vL := v } c t := heap_setCell_at h _
theorem Rpr.set7 (h : Rpr w rb S i x c t) (v : Value) : Rpr (w.setCell ⟨rb, 7, none⟩ v) rb S i { x with vN := v } c t := heap_setCell_at h _
theorem Rpr.set8 (h : Rpr w rb S i x c t) (v : Value) : Rpr (w.setCell ⟨rb, 8, none⟩ v) rb S i { x with vB := v } c t := heap_setCell_at h _
theorem Rpr.set9 (h : Rpr w rb S i x c t) (p : Int) : Rpr (w.setCell ⟨rb, 9, none⟩ (.int .i64 p)) rb S i { x with pl := p } c t := heap_setCell_at h _
theorem Rpr.set10 (h : Rpr w rb S i x c t) (p : Int) : Rpr (w.setCell ⟨rb, 10, none⟩ (.int .i64 p)) rb S i { x with dp := p } c t := heap_setCell_at h _
theorem Rpr.set11 (h : Rpr w rb S i x c t) (c' : Int) : Rpr (w.setCell ⟨rb, 11, none⟩ (.int .i64 c')) rb S i x c' t := heap_setCell_at h _
theorem Rpr.set12 (h : Rpr w rb S i x c t) (t' : Int) : Rpr (w.setCell ⟨rb, 12, none⟩ (.int .i64 t')) rb S i x c t' := heap_setCell_at h _
end
set_option maxRecDepth 100000 in
set_option maxHeartbeats 2000000 in
/-- the first fault. -/
theorem bad_first (rb : Nat) (S : ByteArray) (i : Int) (x : Rq) (c a : Int) (w : World) (hR : Rpr w rb S i x 0 0) :
    Calls Try.prog 32 #[.pointer (some ⟨rb, 0, none⟩), .int .i64 c, .int .i64 a] w fun e w' => e = .returned (.tuple #[]) ∧ Rpr w' rb S i x c a ∧ Only (· = rb) w w' := by
  have d11 := hR.c11
  have d12 := hR.c12
  have f11 := hR.fz 11
  have f12 := hR.fz 12
  have HR : Hid (Rpr w rb S i x 0 0) := hR
  clear hR
  go_enter Try.func32, Try.ntmps32
  go_wp2
  go_end0
  exact ⟨rfl, (HR.out.set11 _).set12 _, ((Only.refl (· = rb) w).setCell (p := ⟨rb, 11, none⟩) rfl _).setCell (p := ⟨rb, 12, none⟩) rfl _⟩
set_option maxRecDepth 100000 in
set_option maxHeartbeats 2000000 in
/-- a later fault. -/
theorem bad_later (rb : Nat) (S : ByteArray) (i : Int) (x : Rq) (c0 t0 c a : Int) (w : World) (hR : Rpr w rb S i x c0 t0) (hc : c0 ≠ 0) :
    Calls Try.prog 32 #[.pointer (some ⟨rb, 0, none⟩), .int .i64 c, .int .i64 a] w fun e w' => e = .returned (.tuple #[]) ∧ w' = w := by
  have d11 := hR.c11
  have q : (c0 == 0) = false := by simpa using hc
  clear hR
  go_enter Try.func32, Try.ntmps32
  go_wp2
  go_end0
  exact ⟨rfl, rfl⟩
/-- the parser stands ahead of these pieces, with no fault. -/
def Qn (w : World) (rb : Nat) (S : ByteArray) (x : Rq) (ts : List Rl.Tk) : Prop := ∃ i : Nat, Rpr w rb S i x 0 0 ∧ Rl.Strm S.data.toList i ts ∧ i ≤ S.size
/-- the parser has had this fault. -/
def Qb (w : World) (rb : Nat) (S : ByteArray) (f : Rl.Ft) : Prop := ∃ (i : Int) (x : Rq), Rpr w rb S i x f.1 f.2 ∧ f.1 ≠ 0 ∧ ∃ a n cap, x.vC = .slice a n cap ∧ n ≤ 24
theorem Qn.only {w w' : World} {rb : Nat} {S : ByteArray} {x : Rq} {ts : List Rl.Tk} {P : Nat → Prop} (h : Qn w rb S x ts) (ho : Only P w w') (hn : ¬ P rb) : Qn w' rb S x ts := by
  obtain ⟨i, h1, h2⟩ := h
  exact ⟨i, h1.only ho hn, h2⟩
theorem Qn.lt {w : World} {rb : Nat} {S : ByteArray} {x : Rq} {ts : List Rl.Tk} (h : Qn w rb S x ts) : rb < w.heap.size := by
  obtain ⟨i, h1, h2⟩ := h
  exact h1.lt
theorem Qn.alloc {w : World} {rb : Nat} {S : ByteArray} {x : Rq} {ts : List Rl.Tk} (h : Qn w rb S x ts) (o : Obj) : Qn (w.alloc o) rb S x ts := by
  obtain ⟨i, h1, h2⟩ := h
  exact ⟨i, h1.alloc o, h2⟩
theorem Qb.only {w w' : World} {rb : Nat} {S : ByteArray} {f : Rl.Ft} {P : Nat → Prop} (h : Qb w rb S f) (ho : Only P w w') (hn : ¬ P rb) : Qb w' rb S f := by
  obtain ⟨i, x, h1, h2⟩ := h
  exact ⟨i, x, h1.only ho hn, h2⟩
theorem Qb.lt {w : World} {rb : Nat} {S : ByteArray} {f : Rl.Ft} (h : Qb w rb S f) : rb < w.heap.size := by
  obtain ⟨i, x, h1, h2⟩ := h
  exact h1.lt
theorem Qb.alloc {w : World} {rb : Nat} {S : ByteArray} {f : Rl.Ft} (h : Qb w rb S f) (o : Obj) : Qb (w.alloc o) rb S f := by
  obtain ⟨i, x, h1, h2⟩ := h
  exact ⟨i, x, h1.alloc o, h2⟩
/-- the byte that a piece begins with; 0: there is none. -/
def hd (t : Rl.Tk) : Int := match t.text with | [] => 0 | c :: _ => (c.toNat : Int)
end Go.Proofs.Ytahoepmnekconaa
