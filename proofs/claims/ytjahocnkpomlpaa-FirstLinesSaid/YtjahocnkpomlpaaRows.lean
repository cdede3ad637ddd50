/-
  No cell of these rows narrows 'for every input' (looked for: loops, veiled, ifaces, maps, wideKeys, modest, calm, conditions, laid).
  DERIVED. THE GIVEN ROWS OF THIS SEAT. 5 by the template 'for every input the law returns true; each argument reads behind the call as it read before'; 0 by the template 'total and deterministic' (their statements: YtjahocnkpomlpaaTotals.lean).
  GIVEN WITH THE SEED: the statements are not yours to turn. If you find one false, say at which input.
  Laid BY PROGRAM, IN A SANDBOX (cutbox-rows.mjs): the forced cells as the released guide's own fill.sh prints them over the translation 1ca715a83fb55334… (all of the seat's roots in one cut). By AI agents, Wed Nov 11 2026. No macro, syntax, notation, axiom, sorry.
-/
import Derived.Test.YtjahocnkpomlpaaChecked
import GoSem.Claim
import GoSem.ClaimJoined
import GoSem.ClaimMapViews
import Derived.JoinedTies
import Derived.KernelRfl
namespace Go.Proofs.Ytjahocnkpomlpaa
/- THE CELL 'sum', in the pinned program and in every row, IS THE sha256 OF THE DUMP (.gsa) THAT YtjahocnkpomlpaaProg.lean LOADS. Nothing in Lean hashes anything: it is a label: what it is worth is what the hold of that sum in a sandbox is worth. -/
noncomputable def Try.pinned : Pinned := { name := "ytjahocnkpomlpaa", sum := "1ca715a83fb55334792b89841bf1e1027085419685a9121fd1a8eb9cc3b097b2", checked := Try.checked }
namespace Rows
def none {H : Type} : Left H := { results := [], args := [] }

/-- 'stanzalaw14.FirstBreaks': WHATEVER THE INPUT: true; the input reads as it did. -/
def firstBreaksSpec : ChangeSpec := { name := "firstBreaks", fn := fun _ => fun
  | [d1, d2] => { results := [.lit (.bool true)], args := [d1, d2] }
  | _ => none }
def firstBreaksRow : OpenClaim := { program := "ytjahocnkpomlpaa", sum := "1ca715a83fb55334792b89841bf1e1027085419685a9121fd1a8eb9cc3b097b2", func := "stanza/stanzalaw14.FirstBreaks", spec := "firstBreaks", apart := false }
def FirstBreaksSaid : Prop := firstBreaksRow.holds Try.pinned (OpenSpec.ofChange firstBreaksSpec)

/-- ITS FALSE NEIGHBOUR: 'it returns false'. Refute it at one input. -/
def firstBreaksWrong : ChangeSpec := { name := "firstBreaks", fn := fun _ => fun
  | [d1, d2] => { results := [.lit (.bool false)], args := [d1, d2] }
  | _ => none }
def FirstBreaksWrongFalsely : Prop := firstBreaksRow.holds Try.pinned (OpenSpec.ofChange firstBreaksWrong)

/-- 'stanzalaw14.FirstLines': WHATEVER THE INPUT: true; the input reads as it did. -/
def firstLinesSpec : ChangeSpec := { name := "firstLines", fn := fun _ => fun
  | [d1, d2] => { results := [.lit (.bool true)], args := [d1, d2] }
  | _ => none }
def firstLinesRow : OpenClaim := { program := "ytjahocnkpomlpaa", sum := "1ca715a83fb55334792b89841bf1e1027085419685a9121fd1a8eb9cc3b097b2", func := "stanza/stanzalaw14.FirstLines", spec := "firstLines", apart := false }
def FirstLinesSaid : Prop := firstLinesRow.holds Try.pinned (OpenSpec.ofChange firstLinesSpec)

/-- ITS FALSE NEIGHBOUR: 'it returns false'. Refute it at one input. -/
def firstLinesWrong : ChangeSpec := { name := "firstLines", fn := fun _ => fun
  | [d1, d2] => { results := [.lit (.bool false)], args := [d1, d2] }
  | _ => none }
def FirstLinesWrongFalsely : Prop := firstLinesRow.holds Try.pinned (OpenSpec.ofChange firstLinesWrong)

/-- 'stanzalaw14.FirstWider': WHATEVER THE INPUT: true; the input reads as it did. -/
def firstWiderSpec : ChangeSpec := { name := "firstWider", fn := fun _ => fun
  | [d1, d2] => { results := [.lit (.bool true)], args := [d1, d2] }
  | _ => none }
def firstWiderRow : OpenClaim := { program := "ytjahocnkpomlpaa", sum := "1ca715a83fb55334792b89841bf1e1027085419685a9121fd1a8eb9cc3b097b2", func := "stanza/stanzalaw14.FirstWider", spec := "firstWider", apart := false }
def FirstWiderSaid : Prop := firstWiderRow.holds Try.pinned (OpenSpec.ofChange firstWiderSpec)

/-- ITS FALSE NEIGHBOUR: 'it returns false'. Refute it at one input. -/
def firstWiderWrong : ChangeSpec := { name := "firstWider", fn := fun _ => fun
  | [d1, d2] => { results := [.lit (.bool false)], args := [d1, d2] }
  | _ => none }
def FirstWiderWrongFalsely : Prop := firstWiderRow.holds Try.pinned (OpenSpec.ofChange firstWiderWrong)

/-- 'stanzalaw14.FirstRest': WHATEVER THE INPUT: true; the input reads as it did. -/
def firstRestSpec : ChangeSpec := { name := "firstRest", fn := fun _ => fun
  | [d1, d2] => { results := [.lit (.bool true)], args := [d1, d2] }
  | _ => none }
def firstRestRow : OpenClaim := { program := "ytjahocnkpomlpaa", sum := "1ca715a83fb55334792b89841bf1e1027085419685a9121fd1a8eb9cc3b097b2", func := "stanza/stanzalaw14.FirstRest", spec := "firstRest", recurses := true, apart := false }
def FirstRestSaid : Prop := firstRestRow.holds Try.pinned (OpenSpec.ofChange firstRestSpec)

/-- ITS FALSE NEIGHBOUR: 'it returns false'. Refute it at one input. -/
def firstRestWrong : ChangeSpec := { name := "firstRest", fn := fun _ => fun
  | [d1, d2] => { results := [.lit (.bool false)], args := [d1, d2] }
  | _ => none }
def FirstRestWrongFalsely : Prop := firstRestRow.holds Try.pinned (OpenSpec.ofChange firstRestWrong)

/-- 'stanzalaw14.FirstHyphens': WHATEVER THE INPUT: true; the input reads as it did. -/
def firstHyphensSpec : ChangeSpec := { name := "firstHyphens", fn := fun _ => fun
  | [d1, d2] => { results := [.lit (.bool true)], args := [d1, d2] }
  | _ => none }
def firstHyphensRow : OpenClaim := { program := "ytjahocnkpomlpaa", sum := "1ca715a83fb55334792b89841bf1e1027085419685a9121fd1a8eb9cc3b097b2", func := "stanza/stanzalaw14.FirstHyphens", spec := "firstHyphens", apart := false }
def FirstHyphensSaid : Prop := firstHyphensRow.holds Try.pinned (OpenSpec.ofChange firstHyphensSpec)

/-- ITS FALSE NEIGHBOUR: 'it returns false'. Refute it at one input. -/
def firstHyphensWrong : ChangeSpec := { name := "firstHyphens", fn := fun _ => fun
  | [d1, d2] => { results := [.lit (.bool false)], args := [d1, d2] }
  | _ => none }
def FirstHyphensWrongFalsely : Prop := firstHyphensRow.holds Try.pinned (OpenSpec.ofChange firstHyphensWrong)

/- THE SECOND FORM. 'bulk': how many values and letters a reading holds, each counted each time it is reached (what is shared counts as often as it is met; a slice's spare places count too). A statement '..UptoSaid' is the law's where the arguments, and the package variables that the reading takes, are together of bulk at most 1048576: NARROWER than '..Said'. Prove '..Said' where nothing that the law and all that it calls make is longer than what came in: it says more and counts as full. Else prove '..UptoSaid'. A law counts once. -/
mutual
def uptoBulk {H : Type} : DataW H → Nat
  | .lit (.string bytes) => bytes.length + 1
  | .lit _ => 1
  | .nil => 1
  | .ptr d => uptoBulk d + 1
  | .slice elems spare => uptoBulkAll elems + uptoBulkAll spare + 1
  | .agg parts => uptoBulkAll parts + 1
  | .iface _ d => uptoBulk d + 1
  | .map entries => uptoBulkEntries entries + 1
  | .held _ => 1
def uptoBulkAll {H : Type} : List (DataW H) → Nat
  | [] => 0
  | d :: r => uptoBulk d + uptoBulkAll r
def uptoBulkEntries {H : Type} : List (Lit × DataW H) → Nat
  | [] => 0
  | x :: r => uptoBulkEntry x + uptoBulkEntries r
def uptoBulkEntry {H : Type} : Lit × DataW H → Nat
  | (.string bytes, d) => bytes.length + uptoBulk d + 1
  | (_, d) => uptoBulk d + 1
 end
def uptoSmall : (H : Type) → List (DataW H) → Bool := fun _ ds => decide (uptoBulkAll ds ≤ 1048576)
def OpenSpec.upto (s : _root_.Go.ChangeSpec) : _root_.Go.OpenSpec := { _root_.Go.OpenSpec.ofChange s with cond := some uptoSmall }

/-- 'stanzalaw14.FirstBreaks', WHERE WHAT IT READS IS OF BULK AT MOST 1048576: true; the input reads as it did. -/
def firstBreaksUptoRow : OpenClaim := { program := "ytjahocnkpomlpaa", sum := "1ca715a83fb55334792b89841bf1e1027085419685a9121fd1a8eb9cc3b097b2", func := "stanza/stanzalaw14.FirstBreaks", spec := "firstBreaks", apart := false, narrowed := true }
def FirstBreaksUptoSaid : Prop := firstBreaksUptoRow.holds Try.pinned (OpenSpec.upto firstBreaksSpec)

/-- 'stanzalaw14.FirstLines', WHERE WHAT IT READS IS OF BULK AT MOST 1048576: true; the input reads as it did. -/
def firstLinesUptoRow : OpenClaim := { program := "ytjahocnkpomlpaa", sum := "1ca715a83fb55334792b89841bf1e1027085419685a9121fd1a8eb9cc3b097b2", func := "stanza/stanzalaw14.FirstLines", spec := "firstLines", apart := false, narrowed := true }
def FirstLinesUptoSaid : Prop := firstLinesUptoRow.holds Try.pinned (OpenSpec.upto firstLinesSpec)

/-- 'stanzalaw14.FirstWider', WHERE WHAT IT READS IS OF BULK AT MOST 1048576: true; the input reads as it did. -/
def firstWiderUptoRow : OpenClaim := { program := "ytjahocnkpomlpaa", sum := "1ca715a83fb55334792b89841bf1e1027085419685a9121fd1a8eb9cc3b097b2", func := "stanza/stanzalaw14.FirstWider", spec := "firstWider", apart := false, narrowed := true }
def FirstWiderUptoSaid : Prop := firstWiderUptoRow.holds Try.pinned (OpenSpec.upto firstWiderSpec)

/-- 'stanzalaw14.FirstRest', WHERE WHAT IT READS IS OF BULK AT MOST 1048576: true; the input reads as it did. -/
def firstRestUptoRow : OpenClaim := { program := "ytjahocnkpomlpaa", sum := "1ca715a83fb55334792b89841bf1e1027085419685a9121fd1a8eb9cc3b097b2", func := "stanza/stanzalaw14.FirstRest", spec := "firstRest", recurses := true, apart := false, narrowed := true }
def FirstRestUptoSaid : Prop := firstRestUptoRow.holds Try.pinned (OpenSpec.upto firstRestSpec)

/-- 'stanzalaw14.FirstHyphens', WHERE WHAT IT READS IS OF BULK AT MOST 1048576: true; the input reads as it did. -/
def firstHyphensUptoRow : OpenClaim := { program := "ytjahocnkpomlpaa", sum := "1ca715a83fb55334792b89841bf1e1027085419685a9121fd1a8eb9cc3b097b2", func := "stanza/stanzalaw14.FirstHyphens", spec := "firstHyphens", apart := false, narrowed := true }
def FirstHyphensUptoSaid : Prop := firstHyphensUptoRow.holds Try.pinned (OpenSpec.upto firstHyphensSpec)

end Rows
end Go.Proofs.Ytjahocnkpomlpaa
