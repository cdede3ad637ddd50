/-
  No cell of these rows narrows 'for every input' (looked for: loops, veiled, ifaces, maps, wideKeys, modest, calm, conditions, laid).
  DERIVED. THE GIVEN ROWS OF THIS SEAT. 5 by the template 'for every input the law returns true; each argument reads behind the call as it read before'; 0 by the template 'total and deterministic' (their statements: YtngaihkgndlkhaaTotals.lean).
  GIVEN WITH THE SEED: the statements are not yours to turn. If you find one false, say at which input.
  Laid BY PROGRAM, IN A SANDBOX (cutbox-rows.mjs): the forced cells as the released guide's own fill.sh prints them over the translation ea580e797e4166c1… (all of the seat's roots in one cut). By AI agents, Wed Nov 11 2026. No macro, syntax, notation, axiom, sorry.
-/
import Derived.Test.YtngaihkgndlkhaaChecked
import GoSem.Claim
import GoSem.ClaimJoined
import GoSem.ClaimMapViews
import Derived.JoinedTies
import Derived.KernelRfl
namespace Go.Proofs.Ytngaihkgndlkhaa
/- THE CELL 'sum', in the pinned program and in every row, IS THE sha256 OF THE DUMP (.gsa) THAT YtngaihkgndlkhaaProg.lean LOADS. Nothing in Lean hashes anything: it is a label: what it is worth is what the hold of that sum in a sandbox is worth. -/
noncomputable def Try.pinned : Pinned := { name := "ytngaihkgndlkhaa", sum := "ea580e797e4166c1372d7f0fe1b8de9f69256bfc9a815cd15408008c20e1a273", checked := Try.checked }
namespace Rows
def none {H : Type} : Left H := { results := [], args := [] }

/-- 'stanzalaw18.JustSpreads': WHATEVER THE INPUT: true; the input reads as it did. -/
def justSpreadsSpec : ChangeSpec := { name := "justSpreads", fn := fun _ => fun
  | [d1, d2] => { results := [.lit (.bool true)], args := [d1, d2] }
  | _ => none }
def justSpreadsRow : OpenClaim := { program := "ytngaihkgndlkhaa", sum := "ea580e797e4166c1372d7f0fe1b8de9f69256bfc9a815cd15408008c20e1a273", func := "stanza/stanzalaw18.JustSpreads", spec := "justSpreads", apart := false }
def JustSpreadsSaid : Prop := justSpreadsRow.holds Try.pinned (OpenSpec.ofChange justSpreadsSpec)

/-- ITS FALSE NEIGHBOUR: 'it returns false'. Refute it at one input. -/
def justSpreadsWrong : ChangeSpec := { name := "justSpreads", fn := fun _ => fun
  | [d1, d2] => { results := [.lit (.bool false)], args := [d1, d2] }
  | _ => none }
def JustSpreadsWrongFalsely : Prop := justSpreadsRow.holds Try.pinned (OpenSpec.ofChange justSpreadsWrong)

/-- 'stanzalaw18.JustEven': WHATEVER THE INPUT: true; the input reads as it did. -/
def justEvenSpec : ChangeSpec := { name := "justEven", fn := fun _ => fun
  | [d1, d2] => { results := [.lit (.bool true)], args := [d1, d2] }
  | _ => none }
def justEvenRow : OpenClaim := { program := "ytngaihkgndlkhaa", sum := "ea580e797e4166c1372d7f0fe1b8de9f69256bfc9a815cd15408008c20e1a273", func := "stanza/stanzalaw18.JustEven", spec := "justEven", apart := false }
def JustEvenSaid : Prop := justEvenRow.holds Try.pinned (OpenSpec.ofChange justEvenSpec)

/-- ITS FALSE NEIGHBOUR: 'it returns false'. Refute it at one input. -/
def justEvenWrong : ChangeSpec := { name := "justEven", fn := fun _ => fun
  | [d1, d2] => { results := [.lit (.bool false)], args := [d1, d2] }
  | _ => none }
def JustEvenWrongFalsely : Prop := justEvenRow.holds Try.pinned (OpenSpec.ofChange justEvenWrong)

/-- 'stanzalaw18.JustLines': WHATEVER THE INPUT: true; the input reads as it did. -/
def justLinesSpec : ChangeSpec := { name := "justLines", fn := fun _ => fun
  | [d1, d2] => { results := [.lit (.bool true)], args := [d1, d2] }
  | _ => none }
def justLinesRow : OpenClaim := { program := "ytngaihkgndlkhaa", sum := "ea580e797e4166c1372d7f0fe1b8de9f69256bfc9a815cd15408008c20e1a273", func := "stanza/stanzalaw18.JustLines", spec := "justLines", inPlace := ["math.Float64bits"], apart := false }
def JustLinesSaid : Prop := justLinesRow.holds Try.pinned (OpenSpec.ofChange justLinesSpec)

/-- ITS FALSE NEIGHBOUR: 'it returns false'. Refute it at one input. -/
def justLinesWrong : ChangeSpec := { name := "justLines", fn := fun _ => fun
  | [d1, d2] => { results := [.lit (.bool false)], args := [d1, d2] }
  | _ => none }
def JustLinesWrongFalsely : Prop := justLinesRow.holds Try.pinned (OpenSpec.ofChange justLinesWrong)

/-- 'stanzalaw18.JustFills': WHATEVER THE INPUT: true; the input reads as it did. -/
def justFillsSpec : ChangeSpec := { name := "justFills", fn := fun _ => fun
  | [d1, d2] => { results := [.lit (.bool true)], args := [d1, d2] }
  | _ => none }
def justFillsRow : OpenClaim := { program := "ytngaihkgndlkhaa", sum := "ea580e797e4166c1372d7f0fe1b8de9f69256bfc9a815cd15408008c20e1a273", func := "stanza/stanzalaw18.JustFills", spec := "justFills", inPlace := ["math.Float64bits"], apart := false }
def JustFillsSaid : Prop := justFillsRow.holds Try.pinned (OpenSpec.ofChange justFillsSpec)

/-- ITS FALSE NEIGHBOUR: 'it returns false'. Refute it at one input. -/
def justFillsWrong : ChangeSpec := { name := "justFills", fn := fun _ => fun
  | [d1, d2] => { results := [.lit (.bool false)], args := [d1, d2] }
  | _ => none }
def JustFillsWrongFalsely : Prop := justFillsRow.holds Try.pinned (OpenSpec.ofChange justFillsWrong)

/-- 'stanzalaw18.JustWhole': WHATEVER THE INPUT: true; the input reads as it did. -/
def justWholeSpec : ChangeSpec := { name := "justWhole", fn := fun _ => fun
  | [d1, d2, d3] => { results := [.lit (.bool true)], args := [d1, d2, d3] }
  | _ => none }
def justWholeRow : OpenClaim := { program := "ytngaihkgndlkhaa", sum := "ea580e797e4166c1372d7f0fe1b8de9f69256bfc9a815cd15408008c20e1a273", func := "stanza/stanzalaw18.JustWhole", spec := "justWhole", apart := false }
def JustWholeSaid : Prop := justWholeRow.holds Try.pinned (OpenSpec.ofChange justWholeSpec)

/-- ITS FALSE NEIGHBOUR: 'it returns false'. Refute it at one input. -/
def justWholeWrong : ChangeSpec := { name := "justWhole", fn := fun _ => fun
  | [d1, d2, d3] => { results := [.lit (.bool false)], args := [d1, d2, d3] }
  | _ => none }
def JustWholeWrongFalsely : Prop := justWholeRow.holds Try.pinned (OpenSpec.ofChange justWholeWrong)

/- THE SECOND FORM. 'bulk': how many values and letters a reading holds, each counted each time it is reached (what is shared counts as often as it is met; a slice's spare places count too). A statement '..UptoSaid' is the law's where the arguments, and the package variables that the reading takes, are together of bulk at most 1048576: NARROWER than '..Said'. Prove '..Said' where nothing that the law and all that it calls make is longer than what came in: it says more and counts as full. Else prove '..UptoSaid'. A law counts once. -/
mutual
def uptoBulk {H : Type} : DataW H → Nat
  | .lit (.string bytes) => bytes.length + 1
  | .lit _ => 1
  | .nil => 1
  | .ptr d => uptoBulk d + 1
  | .slice elems spare => uptoBulkAll elems + uptoBulkAll spare + 1
  | .agg parts => uptoBulkAll parts + 1
  | .iface _ d => uptoBulk d + 1
  | .map entries => uptoBulkEntries entries + 1
  | .held _ => 1
def uptoBulkAll {H : Type} : List (DataW H) → Nat
  | [] => 0
  | d :: r => uptoBulk d + uptoBulkAll r
def uptoBulkEntries {H : Type} : List (Lit × DataW H) → Nat
  | [] => 0
  | x :: r => uptoBulkEntry x + uptoBulkEntries r
def uptoBulkEntry {H : Type} : Lit × DataW H → Nat
  | (.string bytes, d) => bytes.length + uptoBulk d + 1
  | (_, d) => uptoBulk d + 1
 end
def uptoSmall : (H : Type) → List (DataW H) → Bool := fun _ ds => decide (uptoBulkAll ds ≤ 1048576)
def OpenSpec.upto (s : _root_.Go.ChangeSpec) : _root_.Go.OpenSpec := { _root_.Go.OpenSpec.ofChange s with cond := some uptoSmall }

/-- 'stanzalaw18.JustSpreads', WHERE WHAT IT READS IS OF BULK AT MOST 1048576: true; the input reads as it did. -/
def justSpreadsUptoRow : OpenClaim := { program := "ytngaihkgndlkhaa", sum := "ea580e797e4166c1372d7f0fe1b8de9f69256bfc9a815cd15408008c20e1a273", func := "stanza/stanzalaw18.JustSpreads", spec := "justSpreads", apart := false, narrowed := true }
def JustSpreadsUptoSaid : Prop := justSpreadsUptoRow.holds Try.pinned (OpenSpec.upto justSpreadsSpec)

/-- 'stanzalaw18.JustEven', WHERE WHAT IT READS IS OF BULK AT MOST 1048576: true; the input reads as it did. -/
def justEvenUptoRow : OpenClaim := { program := "ytngaihkgndlkhaa", sum := "ea580e797e4166c1372d7f0fe1b8de9f69256bfc9a815cd15408008c20e1a273", func := "stanza/stanzalaw18.JustEven", spec := "justEven", apart := false, narrowed := true }
def JustEvenUptoSaid : Prop := justEvenUptoRow.holds Try.pinned (OpenSpec.upto justEvenSpec)

/-- 'stanzalaw18.JustLines', WHERE WHAT IT READS IS OF BULK AT MOST 1048576: true; the input reads as it did. -/
def justLinesUptoRow : OpenClaim := { program := "ytngaihkgndlkhaa", sum := "ea580e797e4166c1372d7f0fe1b8de9f69256bfc9a815cd15408008c20e1a273", func := "stanza/stanzalaw18.JustLines", spec := "justLines", inPlace := ["math.Float64bits"], apart := false, narrowed := true }
def JustLinesUptoSaid : Prop := justLinesUptoRow.holds Try.pinned (OpenSpec.upto justLinesSpec)

/-- 'stanzalaw18.JustFills', WHERE WHAT IT READS IS OF BULK AT MOST 1048576: true; the input reads as it did. -/
def justFillsUptoRow : OpenClaim := { program := "ytngaihkgndlkhaa", sum := "ea580e797e4166c1372d7f0fe1b8de9f69256bfc9a815cd15408008c20e1a273", func := "stanza/stanzalaw18.JustFills", spec := "justFills", inPlace := ["math.Float64bits"], apart := false, narrowed := true }
def JustFillsUptoSaid : Prop := justFillsUptoRow.holds Try.pinned (OpenSpec.upto justFillsSpec)

/-- 'stanzalaw18.JustWhole', WHERE WHAT IT READS IS OF BULK AT MOST 1048576: true; the input reads as it did. -/
def justWholeUptoRow : OpenClaim := { program := "ytngaihkgndlkhaa", sum := "ea580e797e4166c1372d7f0fe1b8de9f69256bfc9a815cd15408008c20e1a273", func := "stanza/stanzalaw18.JustWhole", spec := "justWhole", apart := false, narrowed := true }
def JustWholeUptoSaid : Prop := justWholeUptoRow.holds Try.pinned (OpenSpec.upto justWholeSpec)

end Rows
end Go.Proofs.Ytngaihkgndlkhaa
