/-
  The chapter's examples, reckoned.
-/
import Derived.Test.YtjgbfpemkjpikaaDoorL12
namespace Go.Proofs.YtjgbfpemkjpikaaDoor
set_option maxRecDepth 100000
def tx0 : ByteArray := ⟨#[46, 104, 121, 49, 112, 32, 50, 97, 32, 116, 97, 45, 98, 108, 101]⟩
theorem pr0 : parseR ⟨#[46, 104, 121, 49, 112, 32, 50, 97, 32, 116, 97, 45, 98, 108, 101]⟩ = (0, 0, [⟨[46, 104, 121, 112], [0, 0, 0, 1, 0]⟩, ⟨[97], [2, 0]⟩], [⟨[116, 97, 98, 108, 101], [0, 0, 1, 0, 0, 0]⟩]) := by kernel_rfl
theorem pr1 : parseR ⟨#[97, 49, 50, 98]⟩ = (30, 0, [], []) := by kernel_rfl
theorem pr2 : parseR ⟨#[97, 46, 98]⟩ = (30, 0, [], []) := by kernel_rfl
theorem pr3 : parseR ⟨#[46]⟩ = (30, 0, [], []) := by kernel_rfl
theorem pr4 : parseR ⟨#[45, 97]⟩ = (30, 0, [], []) := by kernel_rfl
theorem pr5 : parseR ⟨#[97, 45, 45, 98]⟩ = (30, 0, [], []) := by kernel_rfl
theorem pr6 : parseR ⟨#[97, 49, 45, 98]⟩ = (30, 0, [], []) := by kernel_rfl
end Go.Proofs.YtjgbfpemkjpikaaDoor
