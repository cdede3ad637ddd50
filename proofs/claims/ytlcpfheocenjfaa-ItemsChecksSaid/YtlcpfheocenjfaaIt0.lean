/-
  What may be done at the boundaries of clusters, in plain words; no program in it.
-/
import Derived.Test.YtlcpfheocenjfaaCe4
namespace Go.Proofs.Ytlcpfheocenjfaa
set_option linter.unusedVariables false
set_option linter.unusedSimpArgs false
namespace It
/-- what may be done ahead of the sign of a place. -/
def ah (Bk : List Nat) (Pt : List Bool) (i : Nat) : Nat := if i < Bk.length then (if Bk.getD i 0 = 0 ∧ Pt.getD i false = true then 3 else Bk.getD i 0) else 0
/-- at the boundary k of q clusters that begin at these places. -/
def op (Bk : List Nat) (Pt : List Bool) (P : List Nat) (q k : Nat) : Nat := if k = q then 2 else if k = 0 then 0 else ah Bk Pt (P.getD k 0)
def opl (Bk : List Nat) (Pt : List Bool) (P : List Nat) (q : Nat) : List Nat := (List.range (q + 1)).map (op Bk Pt P q)
theorem opl_len (Bk : List Nat) (Pt : List Bool) (P : List Nat) (q : Nat) : (opl Bk Pt P q).length = q + 1 := by simp [opl]
theorem opl_at {Bk : List Nat} {Pt : List Bool} {P : List Nat} {q k : Nat} (h : k ≤ q) : (opl Bk Pt P q)[k]? = some (op Bk Pt P q k) := by
  unfold opl
  rw [List.getElem?_map, List.getElem?_range (by omega)]
  rfl
theorem ah_lt {Bk : List Nat} {Pt : List Bool} {i : Nat} (h : ∀ x ∈ Bk, x < 256) : ah Bk Pt i < 256 := by
  unfold ah
  split
  · split
    · omega
    · rename_i h1 _
      rw [List.getD_eq_getElem?_getD, List.getElem?_eq_getElem h1]
      exact h _ (List.getElem_mem h1)
  · omega
theorem op_lt {Bk : List Nat} {Pt : List Bool} {P : List Nat} {q k : Nat} (h : ∀ x ∈ Bk, x < 256) : op Bk Pt P q k < 256 := by
  unfold op
  split
  · omega
  · split
    · omega
    · exact ah_lt h
end It
end Go.Proofs.Ytlcpfheocenjfaa
