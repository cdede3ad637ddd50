/-
  The rows' own condition on unicode/utf8's two tables, in the words of the contracts; and a world in which they lie.
-/
import Derived.Test.YtjgbfpemkjpikaaDoorRows
import Derived.Lib.LaidU8T
import Derived.PinnedBridge
import Derived.WalkKit
import Derived.ProofKit
import Derived.Deep.DeepHandedRow
import Derived.Lib.LaidTab
namespace Go.Proofs.YtjgbfpemkjpikaaDoor
open Go.RowKit Go.Shelf

def tabRen : Go.Shelf.Ren := ⟨fun n => n, fun | 5 => 5 | 119 => 82 | 138 => 85 | 139 => 86 | n => n, fun | 3 => 0 | 4 => 1 | n => n⟩
theorem tabTypes : U8Types Tryd.prog tabRen := by
  constructor
  · exact Tryd.underlying5
  · exact Tryd.underlying82
  · exact Tryd.underlying85
  · exact Tryd.underlying86
theorem tabExtra : U8Extra Tryd.prog tabRen := ⟨by kernel_rfl, by kernel_rfl, by kernel_rfl, by kernel_rfl, by kernel_rfl, by kernel_rfl, by kernel_rfl⟩
theorem accept_eq : (Rows.laid_unicode_utf8_acceptRanges : DataW Unit) = Lib.acceptData := by kernel_rfl
theorem first_eq : Rows.laid_unicode_utf8_first = Lib.firstData := Pinned.utf8First_eq
/-- the rows' list of tables. -/
def tabList : List (String × DataW Unit) := [("unicode/utf8.acceptRanges", Rows.laid_unicode_utf8_acceptRanges), ("unicode/utf8.first", Rows.laid_unicode_utf8_first)]
theorem tabs_of {W : World} (h : laidMetH Tryd.prog tabList W) : Lib.Utf8Tabs 0 1 W ∧ 2 ≤ W.heap.size := by
  have h' : laidMet Tryd.prog tabList W := h
  obtain ⟨ps, h, _⟩ := h'
  have h3 := Lib.LaidVars_reads h "unicode/utf8.first" Rows.laid_unicode_utf8_first (by simp [tabList])
  have h4 := Lib.LaidVars_reads h "unicode/utf8.acceptRanges" Rows.laid_unicode_utf8_acceptRanges (by simp [tabList])
  rw [first_eq] at h3
  rw [accept_eq] at h4
  have hT : Lib.Utf8Tabs 0 1 W := utf8Tabs_of_readsT tabTypes tabExtra h3 h4
  exact ⟨hT, World.block_lt_of_cell? W ⟨1, 2 * 0, none⟩ (hT.2 0 (by omega)).1⟩

/-- The first table's block, as Go lays it. -/
def layFirst : Obj → Obj
  | .cells _ t frozen => .cells (Lib.firstTab.map (Value.int .u8)).toArray t frozen
  | o => o
/-- The second table's block, as Go lays it. -/
def layAccept : Obj → Obj
  | .cells _ t frozen => .cells ((List.range 16).flatMap fun i => [Value.int .u8 (Lib.accLo i), Value.int .u8 (Lib.accHi i)]).toArray t frozen
  | o => o
/-- A world for the witnesses: the settled one, the two tables holding what Go lays. -/
def laidWorld (P : Program) (os : Os) : World :=
  { World.holding P os ⟨#[], #[], []⟩ with heap := ((World.holding P os ⟨#[], #[], []⟩).heap.modify 0 layFirst).modify 1 layAccept }
theorem laid_met (os : Os) (args : Array Value) : laidMet Tryd.prog tabList ((laidWorld Tryd.prog os).forCall (fun _ _ => 0) ⟨#[], args, []⟩).memory :=
  laidMet_of_run' 8 (by kernel_rfl) (by kernel_rfl)
end Go.Proofs.YtjgbfpemkjpikaaDoor
