/-
  No cell of these rows narrows 'for every input' (looked for: loops, veiled, ifaces, maps, wideKeys, modest, calm, conditions, laid).
  DERIVED. THE GIVEN ROWS OF THIS SEAT. 4 by the template 'for every input the law returns true; each argument reads behind the call as it read before'; 0 by the template 'total and deterministic' (their statements: YtegoadhnilmchaaTotals.lean).
  GIVEN WITH THE SEED: the statements are not yours to turn. If you find one false, say at which input.
  Laid BY PROGRAM, IN A SANDBOX (cutbox-rows.mjs): the forced cells as the released guide's own fill.sh prints them over the translation d98f7750e1b51f04… (all of the seat's roots in one cut). By AI agents, Wed Nov 11 2026. No macro, syntax, notation, axiom, sorry.
-/
import Derived.Test.YtegoadhnilmchaaChecked
import GoSem.Claim
import GoSem.ClaimJoined
import GoSem.ClaimMapViews
import Derived.JoinedTies
import Derived.KernelRfl
namespace Go.Proofs.Ytegoadhnilmchaa
/- THE CELL 'sum', in the pinned program and in every row, IS THE sha256 OF THE DUMP (.gsa) THAT YtegoadhnilmchaaProg.lean LOADS. Nothing in Lean hashes anything: it is a label: what it is worth is what the hold of that sum in a sandbox is worth. -/
noncomputable def Try.pinned : Pinned := { name := "ytegoadhnilmchaa", sum := "d98f7750e1b51f04bfc1093cf9c0b2499186b2a526de4f4599c9d708af0e7a78", checked := Try.checked }
namespace Rows
def none {H : Type} : Left H := { results := [], args := [] }

/-- 'stanzalaw22.DrawRows': WHATEVER THE INPUT: true; the input reads as it did. -/
def drawRowsSpec : ChangeSpec := { name := "drawRows", fn := fun _ => fun
  | [d1, d2, d3] => { results := [.lit (.bool true)], args := [d1, d2, d3] }
  | _ => none }
def drawRowsRow : OpenClaim := { program := "ytegoadhnilmchaa", sum := "d98f7750e1b51f04bfc1093cf9c0b2499186b2a526de4f4599c9d708af0e7a78", func := "stanza/stanzalaw22.DrawRows", spec := "drawRows", inPlace := ["math.Float64bits"], apart := false }
def DrawRowsSaid : Prop := drawRowsRow.holds Try.pinned (OpenSpec.ofChange drawRowsSpec)

/-- ITS FALSE NEIGHBOUR: 'it returns false'. Refute it at one input. -/
def drawRowsWrong : ChangeSpec := { name := "drawRows", fn := fun _ => fun
  | [d1, d2, d3] => { results := [.lit (.bool false)], args := [d1, d2, d3] }
  | _ => none }
def DrawRowsWrongFalsely : Prop := drawRowsRow.holds Try.pinned (OpenSpec.ofChange drawRowsWrong)

/-- 'stanzalaw22.DrawCells': WHATEVER THE INPUT: true; the input reads as it did. -/
def drawCellsSpec : ChangeSpec := { name := "drawCells", fn := fun _ => fun
  | [d1, d2] => { results := [.lit (.bool true)], args := [d1, d2] }
  | _ => none }
def drawCellsRow : OpenClaim := { program := "ytegoadhnilmchaa", sum := "d98f7750e1b51f04bfc1093cf9c0b2499186b2a526de4f4599c9d708af0e7a78", func := "stanza/stanzalaw22.DrawCells", spec := "drawCells", inPlace := ["math.Float64bits"], apart := false }
def DrawCellsSaid : Prop := drawCellsRow.holds Try.pinned (OpenSpec.ofChange drawCellsSpec)

/-- ITS FALSE NEIGHBOUR: 'it returns false'. Refute it at one input. -/
def drawCellsWrong : ChangeSpec := { name := "drawCells", fn := fun _ => fun
  | [d1, d2] => { results := [.lit (.bool false)], args := [d1, d2] }
  | _ => none }
def DrawCellsWrongFalsely : Prop := drawCellsRow.holds Try.pinned (OpenSpec.ofChange drawCellsWrong)

/-- 'stanzalaw22.DrawWords': WHATEVER THE INPUT: true; the input reads as it did. -/
def drawWordsSpec : ChangeSpec := { name := "drawWords", fn := fun _ => fun
  | [d1, d2, d3] => { results := [.lit (.bool true)], args := [d1, d2, d3] }
  | _ => none }
def drawWordsRow : OpenClaim := { program := "ytegoadhnilmchaa", sum := "d98f7750e1b51f04bfc1093cf9c0b2499186b2a526de4f4599c9d708af0e7a78", func := "stanza/stanzalaw22.DrawWords", spec := "drawWords", inPlace := ["math.Float64bits"], apart := false }
def DrawWordsSaid : Prop := drawWordsRow.holds Try.pinned (OpenSpec.ofChange drawWordsSpec)

/-- ITS FALSE NEIGHBOUR: 'it returns false'. Refute it at one input. -/
def drawWordsWrong : ChangeSpec := { name := "drawWords", fn := fun _ => fun
  | [d1, d2, d3] => { results := [.lit (.bool false)], args := [d1, d2, d3] }
  | _ => none }
def DrawWordsWrongFalsely : Prop := drawWordsRow.holds Try.pinned (OpenSpec.ofChange drawWordsWrong)

/-- 'stanzalaw22.DrawEnds': WHATEVER THE INPUT: true; the input reads as it did. -/
def drawEndsSpec : ChangeSpec := { name := "drawEnds", fn := fun _ => fun
  | [d1, d2] => { results := [.lit (.bool true)], args := [d1, d2] }
  | _ => none }
def drawEndsRow : OpenClaim := { program := "ytegoadhnilmchaa", sum := "d98f7750e1b51f04bfc1093cf9c0b2499186b2a526de4f4599c9d708af0e7a78", func := "stanza/stanzalaw22.DrawEnds", spec := "drawEnds", inPlace := ["math.Float64bits"], apart := false }
def DrawEndsSaid : Prop := drawEndsRow.holds Try.pinned (OpenSpec.ofChange drawEndsSpec)

/-- ITS FALSE NEIGHBOUR: 'it returns false'. Refute it at one input. -/
def drawEndsWrong : ChangeSpec := { name := "drawEnds", fn := fun _ => fun
  | [d1, d2] => { results := [.lit (.bool false)], args := [d1, d2] }
  | _ => none }
def DrawEndsWrongFalsely : Prop := drawEndsRow.holds Try.pinned (OpenSpec.ofChange drawEndsWrong)

/- THE SECOND FORM. 'bulk': how many values and letters a reading holds, each counted each time it is reached (what is shared counts as often as it is met; a slice's spare places count too). A statement '..UptoSaid' is the law's where the arguments, and the package variables that the reading takes, are together of bulk at most 1048576: NARROWER than '..Said'. Prove '..Said' where nothing that the law and all that it calls make is longer than what came in: it says more and counts as full. Else prove '..UptoSaid'. A law counts once. -/
mutual
def uptoBulk {H : Type} : DataW H → Nat
  | .lit (.string bytes) => bytes.length + 1
  | .lit _ => 1
  | .nil => 1
  | .ptr d => uptoBulk d + 1
  | .slice elems spare => uptoBulkAll elems + uptoBulkAll spare + 1
  | .agg parts => uptoBulkAll parts + 1
  | .iface _ d => uptoBulk d + 1
  | .map entries => uptoBulkEntries entries + 1
  | .held _ => 1
def uptoBulkAll {H : Type} : List (DataW H) → Nat
  | [] => 0
  | d :: r => uptoBulk d + uptoBulkAll r
def uptoBulkEntries {H : Type} : List (Lit × DataW H) → Nat
  | [] => 0
  | x :: r => uptoBulkEntry x + uptoBulkEntries r
def uptoBulkEntry {H : Type} : Lit × DataW H → Nat
  | (.string bytes, d) => bytes.length + uptoBulk d + 1
  | (_, d) => uptoBulk d + 1
 end
def uptoSmall : (H : Type) → List (DataW H) → Bool := fun _ ds => decide (uptoBulkAll ds ≤ 1048576)
def OpenSpec.upto (s : _root_.Go.ChangeSpec) : _root_.Go.OpenSpec := { _root_.Go.OpenSpec.ofChange s with cond := some uptoSmall }

/-- 'stanzalaw22.DrawRows', WHERE WHAT IT READS IS OF BULK AT MOST 1048576: true; the input reads as it did. -/
def drawRowsUptoRow : OpenClaim := { program := "ytegoadhnilmchaa", sum := "d98f7750e1b51f04bfc1093cf9c0b2499186b2a526de4f4599c9d708af0e7a78", func := "stanza/stanzalaw22.DrawRows", spec := "drawRows", inPlace := ["math.Float64bits"], apart := false, narrowed := true }
def DrawRowsUptoSaid : Prop := drawRowsUptoRow.holds Try.pinned (OpenSpec.upto drawRowsSpec)

/-- 'stanzalaw22.DrawCells', WHERE WHAT IT READS IS OF BULK AT MOST 1048576: true; the input reads as it did. -/
def drawCellsUptoRow : OpenClaim := { program := "ytegoadhnilmchaa", sum := "d98f7750e1b51f04bfc1093cf9c0b2499186b2a526de4f4599c9d708af0e7a78", func := "stanza/stanzalaw22.DrawCells", spec := "drawCells", inPlace := ["math.Float64bits"], apart := false, narrowed := true }
def DrawCellsUptoSaid : Prop := drawCellsUptoRow.holds Try.pinned (OpenSpec.upto drawCellsSpec)

/-- 'stanzalaw22.DrawWords', WHERE WHAT IT READS IS OF BULK AT MOST 1048576: true; the input reads as it did. -/
def drawWordsUptoRow : OpenClaim := { program := "ytegoadhnilmchaa", sum := "d98f7750e1b51f04bfc1093cf9c0b2499186b2a526de4f4599c9d708af0e7a78", func := "stanza/stanzalaw22.DrawWords", spec := "drawWords", inPlace := ["math.Float64bits"], apart := false, narrowed := true }
def DrawWordsUptoSaid : Prop := drawWordsUptoRow.holds Try.pinned (OpenSpec.upto drawWordsSpec)

/-- 'stanzalaw22.DrawEnds', WHERE WHAT IT READS IS OF BULK AT MOST 1048576: true; the input reads as it did. -/
def drawEndsUptoRow : OpenClaim := { program := "ytegoadhnilmchaa", sum := "d98f7750e1b51f04bfc1093cf9c0b2499186b2a526de4f4599c9d708af0e7a78", func := "stanza/stanzalaw22.DrawEnds", spec := "drawEnds", inPlace := ["math.Float64bits"], apart := false, narrowed := true }
def DrawEndsUptoSaid : Prop := drawEndsUptoRow.holds Try.pinned (OpenSpec.upto drawEndsSpec)

end Rows
end Go.Proofs.Ytegoadhnilmchaa
