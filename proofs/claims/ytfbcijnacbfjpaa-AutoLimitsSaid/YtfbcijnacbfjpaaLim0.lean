/-
  An expression that must know its last so many classes, reckoned; no program in it.
-/
import Derived.Test.YtfbcijnacbfjpaaAu
import Derived.WalkKit
namespace Go.Proofs.Ytfbcijnacbfjpaa
set_option linter.unusedVariables false
set_option linter.unusedSimpArgs false
def limE (k : Nat) : Rl.Ex := .mk 2 0 (.mk 1 1 [] :: List.replicate k (.mk 1 3 []))
/-- how it ends: how many states, or too many. -/
def lim (k : Nat) : Option Nat := match Au.make [limE k] 2 with | .ok r => some r.2.length | .error e => if e = 3 then none else some 0
theorem lim0 : lim 0 = some 2 := by kernel_rfl
theorem lim1 : lim 1 = some 4 := by kernel_rfl
theorem lim2 : lim 2 = some 8 := by kernel_rfl
theorem lim3 : lim 3 = some 16 := by kernel_rfl
theorem lim4 : lim 4 = some 32 := by kernel_rfl
theorem lim5 : lim 5 = some 64 := by kernel_rfl
theorem lim6 : lim 6 = some 128 := by kernel_rfl
theorem lim7 : lim 7 = some 256 := by kernel_rfl
theorem lim8 : lim 8 = none := by kernel_rfl
theorem lim9 : lim 9 = none := by kernel_rfl
theorem lim10 : lim 10 = none := by kernel_rfl
end Go.Proofs.Ytfbcijnacbfjpaa
