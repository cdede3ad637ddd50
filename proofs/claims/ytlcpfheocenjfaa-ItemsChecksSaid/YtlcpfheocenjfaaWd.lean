/-
  Widths of small numbers: ranges of one number each.
-/
import Derived.Test.YtlcpfheocenjfaaAw0
import Derived.Test.YtlcpfheocenjfaaWs
import Derived.Test.YtlcpfheocenjfaaCe4
namespace Go.Proofs.Ytlcpfheocenjfaa
open Go.RowKit Go.Maps
set_option linter.unusedVariables false
set_option linter.unusedSimpArgs false
/-- the ranges out of the first k widths. -/
def rl (X : List Nat) (k : Nat) : List Rg := (List.range (min k 200)).map fun (i : Nat) => ⟨(i : Int), (i : Int), ((X.getD i 0 % 3 : Nat) : Int)⟩
theorem rl_zero (X : List Nat) : rl X 0 = [] := by simp [rl]
theorem rl_len (X : List Nat) (k : Nat) : (rl X k).length = min k 200 := by simp [rl]
theorem rl_yes {X : List Nat} {k x : Nat} (h : k < 200) (hx : X[k]? = some x) : rl X (k + 1) = rl X k ++ [⟨(k : Int), (k : Int), ((x % 3 : Nat) : Int)⟩] := by
  unfold rl
  rw [show min (k + 1) 200 = k + 1 by omega, show min k 200 = k by omega, List.range_succ, List.map_append, List.map_singleton, List.getD_eq_getElem?_getD, hx]
  rfl
theorem rl_no {X : List Nat} {k : Nat} (h : 200 ≤ k) : rl X (k + 1) = rl X k := by
  unfold rl
  rw [show min (k + 1) 200 = 200 by omega, show min k 200 = 200 by omega]
theorem rl_ok (X : List Nat) : ∀ k, k ≤ X.length → Pr.okFrom 3 (-1) (rl X k) = true ∧ lastHi (-1) (rl X k) = (min k 200 : Nat) - 1
  | 0, _ => by rw [rl_zero]; exact ⟨rfl, by simp [lastHi]⟩
  | k + 1, h => by
    obtain ⟨h1, h2⟩ := rl_ok X k (by omega)
    by_cases hk : k < 200
    · have hx : X[k]? = some X[k] := List.getElem?_eq_getElem (by omega)
      rw [rl_yes hk hx]
      refine ⟨ok_snoc h1 ?_, ?_⟩
      · rw [h2]
        have := Nat.mod_lt X[k] (show 3 > 0 by omega)
        refine ⟨?_, ?_, ?_, ?_, ?_, ?_⟩ <;> simp only <;> omega
      · rw [lastHi_snoc]
        simp only
        omega
    · rw [rl_no (by omega)]
      exact ⟨h1, by rw [h2]; omega⟩
theorem rg1 (W : World) (A B : Int) (t : Int) : (W.alloc (.cells #[.int .i32 A, .int .i32 B, .int .i64 t] 45)).heap[W.heap.size]? = some (.cells #[.int .i32 A, .int .i32 B, .int .i64 t] 45 (0, 0)) ∧ (W.alloc (.cells #[.int .i32 A, .int .i32 B, .int .i64 t] 45)).heap.size = W.heap.size + 1 := ⟨heap_alloc_new W _, by simp⟩
theorem own_cap {w : World} {base e size n c : Nat} {a : Option Addr} {xs : List Value} (h : w.ownsRow base e size (.slice a n c) n xs) : c ≤ maxLen := by
  obtain ⟨_, ⟨hv, h0⟩ | ⟨g, cap, cur, hv, _, _, h1, h2, _⟩⟩ := h
  · injection hv with _ _ e; rw [e]; exact Nat.zero_le _
  · injection hv with _ _ e; rw [e]; exact h2
theorem made_u8 (n : Nat) : madeCells #[.int .u8 0] n = rowOf n (fun _ => .int .u8 0) := by
  apply Array.ext
  · simp [rowOf, size_madeCells]
  · intro i h1 h2
    simp [madeCells, rowOf, Nat.mod_one]
theorem rgC_snoc (L : List Rg) (x : Rg) : rgCells (L ++ [x]) = rgCells L ++ [.int .i32 x.lo, .int .i32 x.hi, .int .i64 x.to] := by rw [rgCells_append]; rfl
end Go.Proofs.Ytlcpfheocenjfaa
