/-
  The rules' reader in memory: next, take, took, want, name.
-/
import Derived.Test.YtfbcijnacbfjpaaLeaf2
import Derived.Deep.RegionHeld3
import Derived.Deep.RegionWith
import Derived.BigRegion
import Derived.Below
import Derived.Deep.CutRange
namespace Go.Proofs.Ytfbcijnacbfjpaa
open Go.RowKit
set_option linter.unusedVariables false
set_option linter.unusedSimpArgs false

/-- w' is w with new blocks, and with writes to the blocks of S alone. -/
structure Only (S : Nat → Prop) (w w' : World) : Prop where
  os : w'.os = w.os
  tape : w'.tape = w.tape
  output : w'.output = w.output
  size : w.heap.size ≤ w'.heap.size
  block : ∀ g, g < w.heap.size → ¬ S g → w'.heap[g]? = w.heap[g]?
theorem Only.refl (S : Nat → Prop) (w : World) : Only S w w := ⟨rfl, rfl, rfl, Nat.le_refl _, fun _ _ _ => rfl⟩
theorem Only.trans {S : Nat → Prop} {a b c : World} (h : Only S a b) (k : Only S b c) : Only S a c :=
  ⟨k.os.trans h.os, k.tape.trans h.tape, k.output.trans h.output, Nat.le_trans h.size k.size, fun g hg hS => (k.block g (Nat.lt_of_lt_of_le hg h.size) hS).trans (h.block g hg hS)⟩
theorem Only.alloc {S : Nat → Prop} {a w : World} (h : Only S a w) (o : Obj) : Only S a (w.alloc o) :=
  h.trans ⟨rfl, rfl, rfl, by simp, fun g hg _ => Below.heap_alloc _ _ _ hg⟩
theorem Only.setCell {S : Nat → Prop} {a w : World} (h : Only S a w) {p : Addr} (hp : S p.block) (u : Value) : Only S a (w.setCell p u) :=
  h.trans ⟨rfl, rfl, rfl, by simp [World.setCell], fun g hg hS => Below.heap_setCell _ _ _ _ (fun e => hS (e ▸ hp))⟩
theorem Only.setNew {S : Nat → Prop} {a w : World} (h : Only S a w) {p : Addr} (hp : a.heap.size ≤ p.block) (u : Value) : Only S a (w.setCell p u) :=
  ⟨h.os, h.tape, h.output, by simp [World.setCell]; exact h.size, fun g hg hS => (Below.heap_setCell _ _ _ _ (fun e => by omega)).trans (h.block g hg hS)⟩
theorem Only.grown {S : Nat → Prop} {a w w' : World} {row : Option Nat} (h : Only S a w) (hg : w.grownBy w' row) (hr : ∀ k, row = some k → S k) : Only S a w' :=
  h.trans ⟨hg.os, hg.tape, hg.output, hg.size, fun g hgl hS => hg.block g hgl (fun e => hS (hr g e.symm))⟩
theorem Only.drew {S : Nat → Prop} {a w : World} (h : Only S a w) : Only S a w.drew := ⟨h.os, h.tape, h.output, h.size, h.block⟩
theorem Only.drewN {S : Nat → Prop} {a w : World} (h : Only S a w) (n : Nat) : Only S a (w.drewN n) := ⟨h.os, h.tape, h.output, h.size, h.block⟩
theorem Only.below {S : Nat → Prop} {a w : World} {B : Nat} (h : Only S a w) (hB : B ≤ a.heap.size) (hS : ∀ g, S g → B ≤ g) : Below B a w :=
  ⟨h.os, h.tape, h.output, h.size, fun g hg => h.block g (by omega) (fun hs => by have := hS g hs; omega)⟩
theorem Only.mono {S S' : Nat → Prop} {a w : World} (h : Only S a w) (hS : ∀ g, S g → S' g) : Only S' a w := ⟨h.os, h.tape, h.output, h.size, fun g hg hn => h.block g hg (fun hs => hn (hS g hs))⟩

def bs (l : Rl.Str) : ByteArray := ⟨l.toArray⟩
theorem bs_data (l : Rl.Str) : (bs l).data.toList = l := rfl
theorem bs_of (s : ByteArray) : bs s.data.toList = s := Lib.mk_data s
/-- what a reader holds besides its text and its place. -/
structure Rd where
  vC : Value
  j : Int
  a : Int
  vT : Value
  vL : Value
  mb : Nat
  pl : Int
  op : Int
def rdC (S : ByteArray) (i : Int) (x : Rd) : Array Value := #[.string S, .int .i64 i, x.vC, .int .u32 x.j, .int .u32 x.a, x.vT, x.vL, .map (some x.mb), .int .i64 x.pl, .int .i64 x.op]
def Rdr (w : World) (rb : Nat) (S : ByteArray) (i : Int) (x : Rd) : Prop := w.heap[rb]? = some (.cells (rdC S i x) 101 (0, 0))
def thr (c i : Nat) : List PanicEntry := [{ v := .iface 63 (.agg #[.int .i64 (c : Int), .int .i64 (i : Int)]), recovered := false }]

/-- how next ends at a piece. -/
def nextE (t : Rl.Tk) : Ending := if t.bad = true then .panicked (thr 20 t.at') else .returned (.agg #[.string (bs t.text), .int .i64 (t.at' : Int)])
theorem throw_any (c i : Nat) (w : World) : Calls Try.prog 52 #[.int .i64 (c : Int), .int .i64 (i : Int)] w fun e w' => e = .panicked (thr c i) ∧ w' = w := by
  go_enter Try.func52, Try.ntmps52
  go_wp2
  exact ⟨rfl, rfl, rfl⟩

theorem cell_of_row (w : World) (b i : Nat) (cs : Array Value) (t : TypeId) (z : Nat × Nat) (h : w.heap[b]? = some (.cells cs t z)) : w.cell? ⟨b, i, none⟩ = cs[i]? := by
  simp [World.cell?, h]
theorem Rdr.cell {w : World} {rb : Nat} {S : ByteArray} {i : Int} {x : Rd} (h : Rdr w rb S i x) (k : Nat) {v : Value} (hv : (rdC S i x)[k]? = some v) : w.cell? ⟨rb, k, none⟩ = some v := (cell_of_row _ _ _ _ _ _ h).trans hv
theorem Rdr.lt {w : World} {rb : Nat} {S : ByteArray} {i : Int} {x : Rd} (h : Rdr w rb S i x) : rb < w.heap.size := (Array.getElem?_eq_some_iff.1 h).1

theorem Rdr.c0 {w : World} {rb : Nat} {S : ByteArray} {i : Int} {x : Rd} (h : Rdr w rb S i x) : w.cell? ⟨rb, 0, none⟩ = some (.string S) := h.cell 0 rfl
theorem Rdr.c1 {w : World} {rb : Nat} {S : ByteArray} {i : Int} {x : Rd} (h : Rdr w rb S i x) : w.cell? ⟨rb, 1, none⟩ = some (.int .i64 i) := h.cell 1 rfl
theorem Rdr.c2 {w : World} {rb : Nat} {S : ByteArray} {i : Int} {x : Rd} (h : Rdr w rb S i x) : w.cell? ⟨rb, 2, none⟩ = some (x.vC) := h.cell 2 rfl
theorem Rdr.c3 {w : World} {rb : Nat} {S : ByteArray} {i : Int} {x : Rd} (h : Rdr w rb S i x) : w.cell? ⟨rb, 3, none⟩ = some (.int .u32 x.j) := h.cell 3 rfl
theorem Rdr.c4 {w : World} {rb : Nat} {S : ByteArray} {i : Int} {x : Rd} (h : Rdr w rb S i x) : w.cell? ⟨rb, 4, none⟩ = some (.int .u32 x.a) := h.cell 4 rfl
theorem Rdr.c5 {w : World} {rb : Nat} {S : ByteArray} {i : Int} {x : Rd} (h : Rdr w rb S i x) : w.cell? ⟨rb, 5, none⟩ = some (x.vT) := h.cell 5 rfl
theorem Rdr.c6 {w : World} {rb : Nat} {S : ByteArray} {i : Int} {x : Rd} (h : Rdr w rb S i x) : w.cell? ⟨rb, 6, none⟩ = some (x.vL) := h.cell 6 rfl
theorem Rdr.c7 {w : World} {rb : Nat} {S : ByteArray} {i : Int} {x : Rd} (h : Rdr w rb S i x) : w.cell? ⟨rb, 7, none⟩ = some (.map (some x.mb)) := h.cell 7 rfl
theorem Rdr.c8 {w : World} {rb : Nat} {S : ByteArray} {i : Int} {x : Rd} (h : Rdr w rb S i x) : w.cell? ⟨rb, 8, none⟩ = some (.int .i64 x.pl) := h.cell 8 rfl
theorem Rdr.c9 {w : World} {rb : Nat} {S : ByteArray} {i : Int} {x : Rd} (h : Rdr w rb S i x) : w.cell? ⟨rb, 9, none⟩ = some (.int .i64 x.op) := h.cell 9 rfl
theorem Rdr.fz {w : World} {rb : Nat} {S : ByteArray} {i : Int} {x : Rd} (h : Rdr w rb S i x) (k : Nat) : w.frozen? ⟨rb, k, none⟩ = false := by simp [World.frozen?, show w.heap[rb]? = _ from h]
theorem Rdr.only {w w' : World} {rb : Nat} {S : ByteArray} {i : Int} {x : Rd} {P : Nat → Prop} (h : Rdr w rb S i x) (ho : Only P w w') (hn : ¬ P rb) : Rdr w' rb S i x := (ho.block rb h.lt hn).trans h
theorem heap_setCell_at {w : World} {b k : Nat} {cs : Array Value} {t : TypeId} {z : Nat × Nat} (h : w.heap[b]? = some (.cells cs t z)) (v : Value) : (w.setCell ⟨b, k, none⟩ v).heap[b]? = some (.cells (cs.setIfInBounds k v) t z) := by
  obtain ⟨hb, e⟩ := Array.getElem?_eq_some_iff.1 h
  simp [World.setCell, hb, Array.getElem_modify, e]
theorem Rdr.set1 {w : World} {rb : Nat} {S : ByteArray} {i : Int} {x : Rd} (h : Rdr w rb S i x) (i' : Int) : Rdr (w.setCell ⟨rb, 1, none⟩ (.int .i64 i')) rb S i' x := heap_setCell_at h _
theorem Rdr.alloc {w : World} {rb : Nat} {S : ByteArray} {i : Int} {x : Rd} (h : Rdr w rb S i x) (o : Obj) : Rdr (w.alloc o) rb S i x := (Below.heap_alloc _ _ _ h.lt).trans h

theorem callFunc70 (s : ByteArray) (c : Int) (w : World) : (callFunc 89 #[.string s, .int .u8 c]).run Try.prog w = .ok (.value (.int .i64 (Lib.indexByte s.data.toList c.toNat.toUInt8))) w := by
  rw [run_callFunc_extern Try.func89 (by kernel_rfl) (by kernel_rfl) (by kernel_rfl) (e := Extern.BytealgIndexByte.indexByte) (by kernel_rfl), Lib.run_indexByteString]
  rfl
theorem indexByte_any (s : ByteArray) (c : UInt8) (w : World) : Calls Try.prog 69 #[.string s, .int .u8 (c.toNat : Int)] w fun e w' => e = .returned (.int .i64 (Lib.indexByte s.data.toList c)) ∧ w' = w := by
  have h70 := callFunc70 s (c.toNat : Int)
  have hc : (c.toNat : Int).toNat.toUInt8 = c := by simp
  rw [hc] at h70
  go_enter Try.func69, Try.ntmps69
  go_wp2
  go_ret
  exact ⟨rfl, rfl⟩
theorem indexByte_has : ∀ (l : List UInt8) (c : UInt8), (0 ≤ Lib.indexByte l c) ↔ l.contains c = true
  | [], c => by simp [Lib.indexByte]
  | b :: l, c => by
    have ih := indexByte_has l c
    have hge := Lib.indexByte_ge l c
    unfold Lib.indexByte
    rw [List.contains_cons]
    by_cases e : b = c
    · subst e; simp
    · have e1 : (b == c) = false := by simpa using e
      have e2 : (c == b) = false := by simpa using fun h : c = b => e h.symm
      rw [e1, e2, Bool.false_or, if_neg (by simp), ← ih]
      by_cases e3 : Lib.indexByte l c = -1
      · rw [e3]; simp
      · rw [if_neg (by simpa using e3)]; omega
theorem extract_take (r : ByteArray) (n : Nat) : r.extract 0 n = bs (r.data.toList.take n) := by
  rw [Lib.extract_eq]; simp [bs]
theorem Rdr.setOther {w : World} {rb : Nat} {S : ByteArray} {i : Int} {x : Rd} (h : Rdr w rb S i x) {p : Addr} (hp : p.block ≠ rb) (v : Value) : Rdr (w.setCell p v) rb S i x := (Below.heap_setCell _ _ _ _ (fun e => hp e.symm)).trans h
theorem Rdr.drewN {w : World} {rb : Nat} {S : ByteArray} {i : Int} {x : Rd} (h : Rdr w rb S i x) (n : Nat) : Rdr (w.drewN n) rb S i x := h
theorem Rdr.drew {w : World} {rb : Nat} {S : ByteArray} {i : Int} {x : Rd} (h : Rdr w rb S i x) : Rdr w.drew rb S i x := h
end Go.Proofs.Ytfbcijnacbfjpaa
