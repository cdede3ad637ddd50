/-
  first.Break: a part in lines as long as may be.
-/
import Derived.Test.YtegoadhnilmchaaFb
namespace Go.Proofs.Ytegoadhnilmchaa
open Go.RowKit Go.Maps
set_option linter.unusedVariables false
set_option linter.unusedSimpArgs false
theorem lines_step {C : List Ct} {O : List Nat} {t W a b q : Nat} {D : List Ln} (h : Sp.lines C O t W a b = D ++ Sp.lines C O t W q b) (hq : q < b) : Sp.lines C O t W a b = (D ++ [Sp.ln C O t W q b]) ++ Sp.lines C O t W (Sp.nxt C O t W q b).1 b := by
  rw [h, Sp.lines_cons hq, List.append_assoc]
  rfl
theorem lines_len (C : List Ct) (O : List Nat) (t W b : Nat) : ∀ a, (Sp.lines C O t W a b).length ≤ b - a := by
  intro a
  induction h : b - a using Nat.strongRecOn generalizing a with
  | ind m ih =>
    rcases Nat.lt_or_ge a b with g | g
    · have hn := Sp.nxt_in (C := C) (O := O) (t := t) (W := W) g
      rw [Sp.lines_cons g, List.length_cons]
      have := ih (b - (Sp.nxt C O t W a b).1) (by omega) _ rfl
      omega
    · rw [Sp.lines_nil g]; exact Nat.zero_le _
theorem nxt_lt {C : List Ct} {O : List Nat} {t W a b : Nat} (hO : ∀ x ∈ O, x < 256) : (Sp.nxt C O t W a b).2 < 256 := by
  have hg : ∀ k, O.getD k 0 < 256 := fun k => by
    rw [List.getD_eq_getElem?_getD]
    cases hx : O[k]? with
    | none => decide
    | some x => exact hO x (List.mem_of_getElem? hx)
  unfold Sp.nxt
  cases Sp.bst C O t W a (b - a) with
  | some k => exact hg k
  | none =>
    dsimp only
    split
    · exact hg _
    · decide
end Go.Proofs.Ytegoadhnilmchaa

