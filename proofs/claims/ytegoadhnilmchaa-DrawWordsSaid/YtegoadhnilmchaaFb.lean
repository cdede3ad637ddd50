/-
  first.lineEnd: where a line ends.
-/
import Derived.Test.YtegoadhnilmchaaFa
namespace Go.Proofs.Ytegoadhnilmchaa
open Go.RowKit Go.Maps
set_option linter.unusedVariables false
set_option linter.unusedSimpArgs false
theorem getD_some {O : List Nat} {k : Nat} (h : k < O.length) : ∃ e, O[k]? = some e ∧ O.getD k 0 = e := ⟨_, List.getElem?_eq_getElem h, by rw [List.getD_eq_getElem?_getD, List.getElem?_eq_getElem h]; rfl⟩
end Go.Proofs.Ytegoadhnilmchaa

