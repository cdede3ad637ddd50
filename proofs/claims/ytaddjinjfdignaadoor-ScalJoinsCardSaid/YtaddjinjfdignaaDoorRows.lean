/-
  NARROWER THAN 'FOR EVERY INPUT', by the rows' own cells (each row's printed sentence says how): ScalAll: laid · ScalOne: laid · ScalWhole: laid · ScalPuts: laid · ScalFinds: laid · ScalJoins: laid.
  DERIVED. THE GIVEN ROWS OF THIS SEAT. 6 by the template 'for every input the law returns true; each argument reads behind the call as it read before'; 0 by the template 'total and deterministic' (their statements: YtaddjinjfdignaaDoorTotals.lean).
  GIVEN WITH THE SEED: the statements are not yours to turn. If you find one false, say at which input.
  Laid BY PROGRAM, IN A SANDBOX (cutbox-rows.mjs): the forced cells as the released guide's own fill.sh prints them over the translation 0068255c4386a865… (all of the seat's roots in one cut). By AI agents, Wed Nov 11 2026. No macro, syntax, notation, axiom, sorry.
-/
import Derived.Test.YtaddjinjfdignaaDoorChecked
import GoSem.PinnedTables
import GoSem.Claim
import GoSem.ClaimJoined
import GoSem.ClaimMapViews
import Derived.JoinedTies
import Derived.KernelRfl
namespace Go.Proofs.YtaddjinjfdignaaDoor
/- THE CELL 'sum', in the pinned program and in every row, IS THE sha256 OF THE DUMP (.gsa) THAT YtaddjinjfdignaaDoorProg.lean LOADS. Nothing in Lean hashes anything: it is a label: what it is worth is what the hold of that sum in a sandbox is worth. -/
noncomputable def Tryd.pinned : Pinned := { name := "ytaddjinjfdignaadoor", sum := "0068255c4386a865b9952fe31eb056c632e35d410726e485ca71565635666b9e", checked := Tryd.checked }
namespace Rows
def none {H : Type} : Left H := { results := [], args := [] }

/- WHAT THE LISTED PACKAGE-LEVEL VARIABLES READ AS WHEN THE CALL BEGINS. Each datum BY PROGRAM (the guide's laid-datum.mjs) off the statement by which the dump's own 'gosem.cut.vars' lays the variable. In a bare row this is a premise. The card (YtaddjinjfdignaaDoorCards.lean) ties it to the program's text. -/
def laid_unicode_utf8_acceptRanges {H : Type} : DataW H := .agg [.agg [.lit (.int .u8 128), .lit (.int .u8 191)], .agg [.lit (.int .u8 160), .lit (.int .u8 191)], .agg [.lit (.int .u8 128), .lit (.int .u8 159)], .agg [.lit (.int .u8 144), .lit (.int .u8 191)], .agg [.lit (.int .u8 128), .lit (.int .u8 143)], .agg [.lit (.int .u8 0), .lit (.int .u8 0)], .agg [.lit (.int .u8 0), .lit (.int .u8 0)], .agg [.lit (.int .u8 0), .lit (.int .u8 0)], .agg [.lit (.int .u8 0), .lit (.int .u8 0)], .agg [.lit (.int .u8 0), .lit (.int .u8 0)], .agg [.lit (.int .u8 0), .lit (.int .u8 0)], .agg [.lit (.int .u8 0), .lit (.int .u8 0)], .agg [.lit (.int .u8 0), .lit (.int .u8 0)], .agg [.lit (.int .u8 0), .lit (.int .u8 0)], .agg [.lit (.int .u8 0), .lit (.int .u8 0)], .agg [.lit (.int .u8 0), .lit (.int .u8 0)]]
/-- One of Go's own tables, pinned by name: the form's constant. -/
def laid_unicode_utf8_first : DataW Unit := Go.Pinned.utf8First

/-- 'stanzalaw01.ScalAll': WHATEVER THE INPUT: true; the input reads as it did. -/
def scalAllSpec : ChangeSpec := { name := "scalAll", fn := fun _ => fun
  | [d] => { results := [.lit (.bool true)], args := [d] }
  | _ => none }
def scalAllRow : OpenClaim := { program := "ytaddjinjfdignaadoor", sum := "0068255c4386a865b9952fe31eb056c632e35d410726e485ca71565635666b9e", func := "stanza/stanzalaw01.ScalAll", spec := "scalAll", named := ["unicode/utf8.first", "unicode/utf8.acceptRanges"], apart := false, laid := [("unicode/utf8.acceptRanges", laid_unicode_utf8_acceptRanges), ("unicode/utf8.first", laid_unicode_utf8_first)] }
def ScalAllSaid : Prop := scalAllRow.holds Tryd.pinned (OpenSpec.ofChange scalAllSpec)

/-- ITS FALSE NEIGHBOUR: 'it returns false'. Refute it at one input. -/
def scalAllWrong : ChangeSpec := { name := "scalAll", fn := fun _ => fun
  | [d] => { results := [.lit (.bool false)], args := [d] }
  | _ => none }
def ScalAllWrongFalsely : Prop := scalAllRow.holds Tryd.pinned (OpenSpec.ofChange scalAllWrong)

/-- 'stanzalaw01.ScalOne': WHATEVER THE INPUT: true; the input reads as it did. -/
def scalOneSpec : ChangeSpec := { name := "scalOne", fn := fun _ => fun
  | [d1, d2] => { results := [.lit (.bool true)], args := [d1, d2] }
  | _ => none }
def scalOneRow : OpenClaim := { program := "ytaddjinjfdignaadoor", sum := "0068255c4386a865b9952fe31eb056c632e35d410726e485ca71565635666b9e", func := "stanza/stanzalaw01.ScalOne", spec := "scalOne", named := ["unicode/utf8.first", "unicode/utf8.acceptRanges"], apart := false, laid := [("unicode/utf8.acceptRanges", laid_unicode_utf8_acceptRanges), ("unicode/utf8.first", laid_unicode_utf8_first)] }
def ScalOneSaid : Prop := scalOneRow.holds Tryd.pinned (OpenSpec.ofChange scalOneSpec)

/-- ITS FALSE NEIGHBOUR: 'it returns false'. Refute it at one input. -/
def scalOneWrong : ChangeSpec := { name := "scalOne", fn := fun _ => fun
  | [d1, d2] => { results := [.lit (.bool false)], args := [d1, d2] }
  | _ => none }
def ScalOneWrongFalsely : Prop := scalOneRow.holds Tryd.pinned (OpenSpec.ofChange scalOneWrong)

/-- 'stanzalaw01.ScalWhole': WHATEVER THE INPUT: true; the input reads as it did. -/
def scalWholeSpec : ChangeSpec := { name := "scalWhole", fn := fun _ => fun
  | [d] => { results := [.lit (.bool true)], args := [d] }
  | _ => none }
def scalWholeRow : OpenClaim := { program := "ytaddjinjfdignaadoor", sum := "0068255c4386a865b9952fe31eb056c632e35d410726e485ca71565635666b9e", func := "stanza/stanzalaw01.ScalWhole", spec := "scalWhole", named := ["unicode/utf8.first", "unicode/utf8.acceptRanges"], apart := false, laid := [("unicode/utf8.acceptRanges", laid_unicode_utf8_acceptRanges), ("unicode/utf8.first", laid_unicode_utf8_first)] }
def ScalWholeSaid : Prop := scalWholeRow.holds Tryd.pinned (OpenSpec.ofChange scalWholeSpec)

/-- ITS FALSE NEIGHBOUR: 'it returns false'. Refute it at one input. -/
def scalWholeWrong : ChangeSpec := { name := "scalWhole", fn := fun _ => fun
  | [d] => { results := [.lit (.bool false)], args := [d] }
  | _ => none }
def ScalWholeWrongFalsely : Prop := scalWholeRow.holds Tryd.pinned (OpenSpec.ofChange scalWholeWrong)

/-- 'stanzalaw01.ScalPuts': WHATEVER THE INPUT: true; the input reads as it did. -/
def scalPutsSpec : ChangeSpec := { name := "scalPuts", fn := fun _ => fun
  | [d] => { results := [.lit (.bool true)], args := [d] }
  | _ => none }
def scalPutsRow : OpenClaim := { program := "ytaddjinjfdignaadoor", sum := "0068255c4386a865b9952fe31eb056c632e35d410726e485ca71565635666b9e", func := "stanza/stanzalaw01.ScalPuts", spec := "scalPuts", named := ["unicode/utf8.first", "unicode/utf8.acceptRanges"], apart := false, laid := [("unicode/utf8.acceptRanges", laid_unicode_utf8_acceptRanges), ("unicode/utf8.first", laid_unicode_utf8_first)] }
def ScalPutsSaid : Prop := scalPutsRow.holds Tryd.pinned (OpenSpec.ofChange scalPutsSpec)

/-- ITS FALSE NEIGHBOUR: 'it returns false'. Refute it at one input. -/
def scalPutsWrong : ChangeSpec := { name := "scalPuts", fn := fun _ => fun
  | [d] => { results := [.lit (.bool false)], args := [d] }
  | _ => none }
def ScalPutsWrongFalsely : Prop := scalPutsRow.holds Tryd.pinned (OpenSpec.ofChange scalPutsWrong)

/-- 'stanzalaw01.ScalFinds': WHATEVER THE INPUT: true; the input reads as it did. -/
def scalFindsSpec : ChangeSpec := { name := "scalFinds", fn := fun _ => fun
  | [d1, d2] => { results := [.lit (.bool true)], args := [d1, d2] }
  | _ => none }
def scalFindsRow : OpenClaim := { program := "ytaddjinjfdignaadoor", sum := "0068255c4386a865b9952fe31eb056c632e35d410726e485ca71565635666b9e", func := "stanza/stanzalaw01.ScalFinds", spec := "scalFinds", unfollowed := true, recurses := true, named := ["unicode/utf8.first", "unicode/utf8.acceptRanges"], apart := false, laid := [("unicode/utf8.acceptRanges", laid_unicode_utf8_acceptRanges), ("unicode/utf8.first", laid_unicode_utf8_first)] }
def ScalFindsSaid : Prop := scalFindsRow.holds Tryd.pinned (OpenSpec.ofChange scalFindsSpec)

/-- ITS FALSE NEIGHBOUR: 'it returns false'. Refute it at one input. -/
def scalFindsWrong : ChangeSpec := { name := "scalFinds", fn := fun _ => fun
  | [d1, d2] => { results := [.lit (.bool false)], args := [d1, d2] }
  | _ => none }
def ScalFindsWrongFalsely : Prop := scalFindsRow.holds Tryd.pinned (OpenSpec.ofChange scalFindsWrong)

/-- 'stanzalaw01.ScalJoins': WHATEVER THE INPUT: true; the input reads as it did. -/
def scalJoinsSpec : ChangeSpec := { name := "scalJoins", fn := fun _ => fun
  | [d1, d2] => { results := [.lit (.bool true)], args := [d1, d2] }
  | _ => none }
def scalJoinsRow : OpenClaim := { program := "ytaddjinjfdignaadoor", sum := "0068255c4386a865b9952fe31eb056c632e35d410726e485ca71565635666b9e", func := "stanza/stanzalaw01.ScalJoins", spec := "scalJoins", named := ["unicode/utf8.first", "unicode/utf8.acceptRanges"], apart := false, laid := [("unicode/utf8.acceptRanges", laid_unicode_utf8_acceptRanges), ("unicode/utf8.first", laid_unicode_utf8_first)] }
def ScalJoinsSaid : Prop := scalJoinsRow.holds Tryd.pinned (OpenSpec.ofChange scalJoinsSpec)

/-- ITS FALSE NEIGHBOUR: 'it returns false'. Refute it at one input. -/
def scalJoinsWrong : ChangeSpec := { name := "scalJoins", fn := fun _ => fun
  | [d1, d2] => { results := [.lit (.bool false)], args := [d1, d2] }
  | _ => none }
def ScalJoinsWrongFalsely : Prop := scalJoinsRow.holds Tryd.pinned (OpenSpec.ofChange scalJoinsWrong)

/- THE SECOND FORM. 'bulk': how many values and letters a reading holds, each counted each time it is reached (what is shared counts as often as it is met; a slice's spare places count too). A statement '..UptoSaid' is the law's where the arguments, and the package variables that the reading takes, are together of bulk at most 1048576: NARROWER than '..Said'. Prove '..Said' where nothing that the law and all that it calls make is longer than what came in: it says more and counts as full. Else prove '..UptoSaid'. A law counts once. -/
mutual
def uptoBulk {H : Type} : DataW H → Nat
  | .lit (.string bytes) => bytes.length + 1
  | .lit _ => 1
  | .nil => 1
  | .ptr d => uptoBulk d + 1
  | .slice elems spare => uptoBulkAll elems + uptoBulkAll spare + 1
  | .agg parts => uptoBulkAll parts + 1
  | .iface _ d => uptoBulk d + 1
  | .map entries => uptoBulkEntries entries + 1
  | .held _ => 1
def uptoBulkAll {H : Type} : List (DataW H) → Nat
  | [] => 0
  | d :: r => uptoBulk d + uptoBulkAll r
def uptoBulkEntries {H : Type} : List (Lit × DataW H) → Nat
  | [] => 0
  | x :: r => uptoBulkEntry x + uptoBulkEntries r
def uptoBulkEntry {H : Type} : Lit × DataW H → Nat
  | (.string bytes, d) => bytes.length + uptoBulk d + 1
  | (_, d) => uptoBulk d + 1
 end
def uptoSmall : (H : Type) → List (DataW H) → Bool := fun _ ds => decide (uptoBulkAll ds ≤ 1048576)
def OpenSpec.upto (s : _root_.Go.ChangeSpec) : _root_.Go.OpenSpec := { _root_.Go.OpenSpec.ofChange s with cond := some uptoSmall }

/-- 'stanzalaw01.ScalAll', WHERE WHAT IT READS IS OF BULK AT MOST 1048576: true; the input reads as it did. -/
def scalAllUptoRow : OpenClaim := { program := "ytaddjinjfdignaadoor", sum := "0068255c4386a865b9952fe31eb056c632e35d410726e485ca71565635666b9e", func := "stanza/stanzalaw01.ScalAll", spec := "scalAll", named := ["unicode/utf8.first", "unicode/utf8.acceptRanges"], apart := false, laid := [("unicode/utf8.acceptRanges", laid_unicode_utf8_acceptRanges), ("unicode/utf8.first", laid_unicode_utf8_first)], narrowed := true }
def ScalAllUptoSaid : Prop := scalAllUptoRow.holds Tryd.pinned (OpenSpec.upto scalAllSpec)

/-- 'stanzalaw01.ScalOne', WHERE WHAT IT READS IS OF BULK AT MOST 1048576: true; the input reads as it did. -/
def scalOneUptoRow : OpenClaim := { program := "ytaddjinjfdignaadoor", sum := "0068255c4386a865b9952fe31eb056c632e35d410726e485ca71565635666b9e", func := "stanza/stanzalaw01.ScalOne", spec := "scalOne", named := ["unicode/utf8.first", "unicode/utf8.acceptRanges"], apart := false, laid := [("unicode/utf8.acceptRanges", laid_unicode_utf8_acceptRanges), ("unicode/utf8.first", laid_unicode_utf8_first)], narrowed := true }
def ScalOneUptoSaid : Prop := scalOneUptoRow.holds Tryd.pinned (OpenSpec.upto scalOneSpec)

/-- 'stanzalaw01.ScalWhole', WHERE WHAT IT READS IS OF BULK AT MOST 1048576: true; the input reads as it did. -/
def scalWholeUptoRow : OpenClaim := { program := "ytaddjinjfdignaadoor", sum := "0068255c4386a865b9952fe31eb056c632e35d410726e485ca71565635666b9e", func := "stanza/stanzalaw01.ScalWhole", spec := "scalWhole", named := ["unicode/utf8.first", "unicode/utf8.acceptRanges"], apart := false, laid := [("unicode/utf8.acceptRanges", laid_unicode_utf8_acceptRanges), ("unicode/utf8.first", laid_unicode_utf8_first)], narrowed := true }
def ScalWholeUptoSaid : Prop := scalWholeUptoRow.holds Tryd.pinned (OpenSpec.upto scalWholeSpec)

/-- 'stanzalaw01.ScalPuts', WHERE WHAT IT READS IS OF BULK AT MOST 1048576: true; the input reads as it did. -/
def scalPutsUptoRow : OpenClaim := { program := "ytaddjinjfdignaadoor", sum := "0068255c4386a865b9952fe31eb056c632e35d410726e485ca71565635666b9e", func := "stanza/stanzalaw01.ScalPuts", spec := "scalPuts", named := ["unicode/utf8.first", "unicode/utf8.acceptRanges"], apart := false, laid := [("unicode/utf8.acceptRanges", laid_unicode_utf8_acceptRanges), ("unicode/utf8.first", laid_unicode_utf8_first)], narrowed := true }
def ScalPutsUptoSaid : Prop := scalPutsUptoRow.holds Tryd.pinned (OpenSpec.upto scalPutsSpec)

/-- 'stanzalaw01.ScalFinds', WHERE WHAT IT READS IS OF BULK AT MOST 1048576: true; the input reads as it did. -/
def scalFindsUptoRow : OpenClaim := { program := "ytaddjinjfdignaadoor", sum := "0068255c4386a865b9952fe31eb056c632e35d410726e485ca71565635666b9e", func := "stanza/stanzalaw01.ScalFinds", spec := "scalFinds", unfollowed := true, recurses := true, named := ["unicode/utf8.first", "unicode/utf8.acceptRanges"], apart := false, laid := [("unicode/utf8.acceptRanges", laid_unicode_utf8_acceptRanges), ("unicode/utf8.first", laid_unicode_utf8_first)], narrowed := true }
def ScalFindsUptoSaid : Prop := scalFindsUptoRow.holds Tryd.pinned (OpenSpec.upto scalFindsSpec)

/-- 'stanzalaw01.ScalJoins', WHERE WHAT IT READS IS OF BULK AT MOST 1048576: true; the input reads as it did. -/
def scalJoinsUptoRow : OpenClaim := { program := "ytaddjinjfdignaadoor", sum := "0068255c4386a865b9952fe31eb056c632e35d410726e485ca71565635666b9e", func := "stanza/stanzalaw01.ScalJoins", spec := "scalJoins", named := ["unicode/utf8.first", "unicode/utf8.acceptRanges"], apart := false, laid := [("unicode/utf8.acceptRanges", laid_unicode_utf8_acceptRanges), ("unicode/utf8.first", laid_unicode_utf8_first)], narrowed := true }
def ScalJoinsUptoSaid : Prop := scalJoinsUptoRow.holds Tryd.pinned (OpenSpec.upto scalJoinsSpec)

end Rows
end Go.Proofs.YtaddjinjfdignaaDoor
