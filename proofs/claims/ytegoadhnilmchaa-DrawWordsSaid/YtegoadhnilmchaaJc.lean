/-
  Layer 18's Awake; JustSpreads' walk.
-/
import Derived.Test.YtegoadhnilmchaaJb
import Derived.Test.YtegoadhnilmchaaSm
namespace Go.Proofs.Ytegoadhnilmchaa
open Go.RowKit Go.Maps
set_option linter.unusedVariables false
set_option linter.unusedSimpArgs false
theorem one_all : Sd.all 5 3 = [1, 2, 2] := by decide
namespace justSpreads
end justSpreads
end Go.Proofs.Ytegoadhnilmchaa

