/-
  DERIVED. GIVEN WITH THE SEED: THE CARDS: each row of YtaddjinjfdignabDoorRows.lean that lists a variable, with what it lists TIED to the program's text (the seventh form; the later family's looks); each row that meets fmt, with fmt's text TOLD by the authors' own Lean function (tested against real Go, not proved from fmt's source: count such statements apart). THE CARD IS WHAT COUNTS. Prove the row's statement (the work); the ties are given (YtaddjinjfdignabDoorTie.lean); close each card by the builder's one call (the guide's Derived/Test/ToyasCard.lean, 'card_holds'). Laid BY PROGRAM, IN A SANDBOX (cutbox-door.mjs). By AI agents, Wed Nov 11 2026. No macro, syntax, notation, axiom, sorry.
-/
import Derived.Test.YtaddjinjfdignabDoorRows
import GoSem.ClaimSeven
namespace Go.Proofs.YtaddjinjfdignabDoor
namespace Rows

/-- THE TIED CARD OF 'stanzalaw01.ScalCuts'. -/
def scalCutsCard : Claim7 := { stood := { row := scalCutsRow, standIns := [], harness := (true, "a544fe51c89225b7ea857f6ed90dbeada62407694d22f2aded90edd65e1322d9"), looks := false }, kinds := [], alts := [], laidByText := true, laidKinds := [.data, .pinned], laidTests := true, laidLooks := .later }
def ScalCutsCardSaid : Prop := Claim7.holds Tryd.pinned (.plain (OpenSpec.ofChange scalCutsSpec)) scalCutsCard

/-- THE TIED CARD OF 'stanzalaw01.ScalMost'. -/
def scalMostCard : Claim7 := { stood := { row := scalMostRow, standIns := [], harness := (true, "a544fe51c89225b7ea857f6ed90dbeada62407694d22f2aded90edd65e1322d9"), looks := false }, kinds := [], alts := [], laidByText := true, laidKinds := [.data, .pinned], laidTests := true, laidLooks := .later }
def ScalMostCardSaid : Prop := Claim7.holds Tryd.pinned (.plain (OpenSpec.ofChange scalMostSpec)) scalMostCard

/-- THE SECOND FORM's CARD OF 'stanzalaw01.ScalCuts'. -/
def scalCutsUptoCard : Claim7 := { stood := { row := scalCutsUptoRow, standIns := [], harness := (true, "a544fe51c89225b7ea857f6ed90dbeada62407694d22f2aded90edd65e1322d9"), looks := false }, kinds := [], alts := [], laidByText := true, laidKinds := [.data, .pinned], laidTests := true, laidLooks := .later }
def ScalCutsUptoCardSaid : Prop := Claim7.holds Tryd.pinned (.plain (OpenSpec.upto scalCutsSpec)) scalCutsUptoCard

/-- THE SECOND FORM's CARD OF 'stanzalaw01.ScalMost'. -/
def scalMostUptoCard : Claim7 := { stood := { row := scalMostUptoRow, standIns := [], harness := (true, "a544fe51c89225b7ea857f6ed90dbeada62407694d22f2aded90edd65e1322d9"), looks := false }, kinds := [], alts := [], laidByText := true, laidKinds := [.data, .pinned], laidTests := true, laidLooks := .later }
def ScalMostUptoCardSaid : Prop := Claim7.holds Tryd.pinned (.plain (OpenSpec.upto scalMostSpec)) scalMostUptoCard
end Rows
end Go.Proofs.YtaddjinjfdignabDoor
