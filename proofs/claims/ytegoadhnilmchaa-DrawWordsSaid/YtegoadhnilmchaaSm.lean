/-
  Lists of numbers that are the same.
-/
import Derived.Test.YtegoadhnilmchaaVb
namespace Go.Proofs.Ytegoadhnilmchaa
open Go.RowKit Go.Maps
set_option linter.unusedVariables false
set_option linter.unusedSimpArgs false
end Go.Proofs.Ytegoadhnilmchaa

