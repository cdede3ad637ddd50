/-
  A slice of ranges as the walks want it: where its cells lie and what they hold.
-/
import Derived.Test.YtlcpfheocenjfaaProg
import Derived.Test.YtlcpfheocenjfaaPMath
import Derived.WalkKit
import Derived.WalkSpells
import Derived.WalkLawsBesides
namespace Go.Proofs.Ytlcpfheocenjfaa
open Go.RowKit

/-- the slice 'a' with capacity 'cap' holds these ranges, in block b from off on. -/
structure Sees (w : World) (L : List Rg) (a : Option Addr) (b off cap : Nat) : Prop where
  cap : L.length ≤ cap
  adr : 0 < L.length → a = some ⟨b, off, none⟩
  blk : 0 < L.length → b < w.heap.size
  c0 : ∀ j x, L[j]? = some x → w.cell? ⟨b, off + j * 3, none⟩ = some (.int .i32 x.lo)
  c1 : ∀ j x, L[j]? = some x → w.cell? ⟨b, off + j * 3 + 1, none⟩ = some (.int .i32 x.hi)
  c2 : ∀ j x, L[j]? = some x → w.cell? ⟨b, off + j * 3 + 2, none⟩ = some (.int .i64 x.to)

/-- the ranges' numbers are numbers of their kinds. -/
def Fit (L : List Rg) : Prop := ∀ x ∈ L, -2147483648 ≤ x.lo ∧ x.lo ≤ 2147483647 ∧ -2147483648 ≤ x.hi ∧ x.hi ≤ 2147483647 ∧ -9223372036854775808 ≤ x.to ∧ x.to ≤ 9223372036854775807

theorem Sees.below {w w' : World} {L : List Rg} {a : Option Addr} {b off cap B : Nat} (h : Sees w L a b off cap) (hb : Below B w w') (hB : 0 < L.length → b < B) : Sees w' L a b off cap := by
  have hl : ∀ {j x}, L[j]? = some x → 0 < L.length := fun {j x} hj => Nat.lt_of_le_of_lt (Nat.zero_le _) (List.getElem?_eq_some_iff.1 hj).1
  exact ⟨h.cap, h.adr, fun h0 => Nat.lt_of_lt_of_le (h.blk h0) hb.size,
    fun j x hj => (hb.cell (p := ⟨b, off + j * 3, none⟩) (hB (hl hj))).trans (h.c0 j x hj),
    fun j x hj => (hb.cell (p := ⟨b, off + j * 3 + 1, none⟩) (hB (hl hj))).trans (h.c1 j x hj),
    fun j x hj => (hb.cell (p := ⟨b, off + j * 3 + 2, none⟩) (hB (hl hj))).trans (h.c2 j x hj)⟩
theorem Sees.kept {w w' : World} {L : List Rg} {a : Option Addr} {b off cap : Nat} (h : Sees w L a b off cap) (hb : Below w.heap.size w w') : Sees w' L a b off cap := h.below hb h.blk
theorem below_drewN {B : Nat} {w wr : World} (h : Below B w wr) (n : Nat) : Below B w (wr.drewN n) := ⟨h.os, h.tape, h.output, h.size, h.block⟩
end Go.Proofs.Ytlcpfheocenjfaa
