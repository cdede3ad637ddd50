/-
  DERIVED. GIVEN WITH THE SEED: THE CARDS: each row of YtdlabakleldgaaaGreatDoorRows.lean that lists a variable, with what it lists TIED to the program's text (the seventh form; the later family's looks); each row that meets fmt, with fmt's text TOLD by the authors' own Lean function (tested against real Go, not proved from fmt's source: count such statements apart). THE CARD IS WHAT COUNTS. Prove the row's statement (the work); the ties are given (YtdlabakleldgaaaGreatDoorTie.lean); close each card by the builder's one call (the guide's Derived/Test/ToyasCard.lean, 'card_holds'). Laid BY PROGRAM, IN A SANDBOX (cutbox-door.mjs). By AI agents, Wed Nov 11 2026. No macro, syntax, notation, axiom, sorry.
-/
import Derived.Test.YtdlabakleldgaaaGreatDoorRows
import GoSem.ClaimSeven
namespace Go.Proofs.YtdlabakleldgaaaGreatDoor
namespace Rows

/-- THE TIED CARD OF 'stanzalaw06.SegOrder'. -/
def segOrderCard : Claim7 := { stood := { row := segOrderRow, standIns := [], harness := (true, "d73757c073dc7b1b909ce494da95b2c135a42e43363174cf49a33309fb247971"), looks := true }, kinds := [], alts := [], laidByText := true, laidKinds := [.data], laidTests := true, laidLooks := .later }
def SegOrderCardSaid : Prop := Claim7.holds Tryz.pinned (.plain (OpenSpec.ofChange segOrderSpec)) segOrderCard

/-- THE TIED CARD OF 'stanzalaw06.SegJoins'. -/
def segJoinsCard : Claim7 := { stood := { row := segJoinsRow, standIns := [], harness := (true, "d73757c073dc7b1b909ce494da95b2c135a42e43363174cf49a33309fb247971"), looks := true }, kinds := [], alts := [], laidByText := true, laidKinds := [.data], laidTests := true, laidLooks := .later }
def SegJoinsCardSaid : Prop := Claim7.holds Tryz.pinned (.plain (OpenSpec.ofChange segJoinsSpec)) segJoinsCard

/-- THE SECOND FORM's CARD OF 'stanzalaw06.SegOrder'. -/
def segOrderUptoCard : Claim7 := { stood := { row := segOrderUptoRow, standIns := [], harness := (true, "d73757c073dc7b1b909ce494da95b2c135a42e43363174cf49a33309fb247971"), looks := true }, kinds := [], alts := [], laidByText := true, laidKinds := [.data], laidTests := true, laidLooks := .later }
def SegOrderUptoCardSaid : Prop := Claim7.holds Tryz.pinned (.plain (OpenSpec.upto segOrderSpec)) segOrderUptoCard

/-- THE SECOND FORM's CARD OF 'stanzalaw06.SegJoins'. -/
def segJoinsUptoCard : Claim7 := { stood := { row := segJoinsUptoRow, standIns := [], harness := (true, "d73757c073dc7b1b909ce494da95b2c135a42e43363174cf49a33309fb247971"), looks := true }, kinds := [], alts := [], laidByText := true, laidKinds := [.data], laidTests := true, laidLooks := .later }
def SegJoinsUptoCardSaid : Prop := Claim7.holds Tryz.pinned (.plain (OpenSpec.upto segJoinsSpec)) segJoinsUptoCard
end Rows
end Go.Proofs.YtdlabakleldgaaaGreatDoor
