/-
  DERIVED. GIVEN WITH THE SEED: THE CARDS: each row of YtchaoonefiamdaaGreatDoorRows.lean that lists a variable, with what it lists TIED to the program's text (the seventh form; the later family's looks); each row that meets fmt, with fmt's text TOLD by the authors' own Lean function (tested against real Go, not proved from fmt's source: count such statements apart). THE CARD IS WHAT COUNTS. Prove the row's statement (the work); the ties are given (YtchaoonefiamdaaGreatDoorTie.lean); close each card by the builder's one call (the guide's Derived/Test/ToyasCard.lean, 'card_holds'). Laid BY PROGRAM, IN A SANDBOX (cutbox-door.mjs). By AI agents, Wed Nov 11 2026. No macro, syntax, notation, axiom, sorry.
-/
import Derived.Test.YtchaoonefiamdaaGreatDoorRows
import GoSem.ClaimSeven
namespace Go.Proofs.YtchaoonefiamdaaGreatDoor
namespace Rows

/-- THE TIED CARD OF 'stanzalaw06.SegLocal'. -/
def segLocalCard : Claim7 := { stood := { row := segLocalRow, standIns := [], harness := (true, "ed0e2beae2cf41b9b6e186c9236433b145a597d73f1c0a12f1d5993c2abce31f"), looks := true }, kinds := [], alts := [], laidByText := true, laidKinds := [.data], laidTests := true, laidLooks := .later }
def SegLocalCardSaid : Prop := Claim7.holds Tryz.pinned (.plain (OpenSpec.ofChange segLocalSpec)) segLocalCard

/-- THE TIED CARD OF 'stanzalaw06.SegFar'. -/
def segFarCard : Claim7 := { stood := { row := segFarRow, standIns := [], harness := (true, "ed0e2beae2cf41b9b6e186c9236433b145a597d73f1c0a12f1d5993c2abce31f"), looks := true }, kinds := [], alts := [], laidByText := true, laidKinds := [.data], laidTests := true, laidLooks := .later }
def SegFarCardSaid : Prop := Claim7.holds Tryz.pinned (.plain (OpenSpec.ofChange segFarSpec)) segFarCard

/-- THE SECOND FORM's CARD OF 'stanzalaw06.SegLocal'. -/
def segLocalUptoCard : Claim7 := { stood := { row := segLocalUptoRow, standIns := [], harness := (true, "ed0e2beae2cf41b9b6e186c9236433b145a597d73f1c0a12f1d5993c2abce31f"), looks := true }, kinds := [], alts := [], laidByText := true, laidKinds := [.data], laidTests := true, laidLooks := .later }
def SegLocalUptoCardSaid : Prop := Claim7.holds Tryz.pinned (.plain (OpenSpec.upto segLocalSpec)) segLocalUptoCard

/-- THE SECOND FORM's CARD OF 'stanzalaw06.SegFar'. -/
def segFarUptoCard : Claim7 := { stood := { row := segFarUptoRow, standIns := [], harness := (true, "ed0e2beae2cf41b9b6e186c9236433b145a597d73f1c0a12f1d5993c2abce31f"), looks := true }, kinds := [], alts := [], laidByText := true, laidKinds := [.data], laidTests := true, laidLooks := .later }
def SegFarUptoCardSaid : Prop := Claim7.holds Tryz.pinned (.plain (OpenSpec.upto segFarSpec)) segFarUptoCard
end Rows
end Go.Proofs.YtchaoonefiamdaaGreatDoor
