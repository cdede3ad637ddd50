/-
  DERIVED. GIVEN WITH THE SEED: THE CARDS: each row of YtjgbfpemkjpikaaDoorRows.lean that lists a variable, with what it lists TIED to the program's text (the seventh form; the later family's looks); each row that meets fmt, with fmt's text TOLD by the authors' own Lean function (tested against real Go, not proved from fmt's source: count such statements apart). THE CARD IS WHAT COUNTS. Prove the row's statement (the work); the ties are given (YtjgbfpemkjpikaaDoorTie.lean); close each card by the builder's one call (the guide's Derived/Test/ToyasCard.lean, 'card_holds'). Laid BY PROGRAM, IN A SANDBOX (cutbox-door.mjs). By AI agents, Wed Nov 11 2026. No macro, syntax, notation, axiom, sorry.
-/
import Derived.Test.YtjgbfpemkjpikaaDoorRows
import GoSem.ClaimSeven
namespace Go.Proofs.YtjgbfpemkjpikaaDoor
namespace Rows

/-- THE TIED CARD OF 'stanzalaw07.PatsTexts'. -/
def patsTextsCard : Claim7 := { stood := { row := patsTextsRow, standIns := [], harness := (true, "272b90a8e68ae05ed90307455d27a7a3ebfc461c6c64e21e965f312039afd170"), looks := false }, kinds := [], alts := [], laidByText := true, laidKinds := [.data, .pinned], laidTests := true, laidLooks := .later }
def PatsTextsCardSaid : Prop := Claim7.holds Tryd.pinned (.plain (OpenSpec.ofChange patsTextsSpec)) patsTextsCard

/-- THE TIED CARD OF 'stanzalaw07.PatsWords'. -/
def patsWordsCard : Claim7 := { stood := { row := patsWordsRow, standIns := [], harness := (true, "272b90a8e68ae05ed90307455d27a7a3ebfc461c6c64e21e965f312039afd170"), looks := false }, kinds := [], alts := [], laidByText := true, laidKinds := [.data, .pinned], laidTests := true, laidLooks := .later }
def PatsWordsCardSaid : Prop := Claim7.holds Tryd.pinned (.plain (OpenSpec.ofChange patsWordsSpec)) patsWordsCard

/-- THE TIED CARD OF 'stanzalaw07.PatsBack'. -/
def patsBackCard : Claim7 := { stood := { row := patsBackRow, standIns := [], harness := (true, "272b90a8e68ae05ed90307455d27a7a3ebfc461c6c64e21e965f312039afd170"), looks := false }, kinds := [], alts := [], laidByText := true, laidKinds := [.data, .pinned], laidTests := true, laidLooks := .later }
def PatsBackCardSaid : Prop := Claim7.holds Tryd.pinned (.plain (OpenSpec.ofChange patsBackSpec)) patsBackCard

/-- THE TIED CARD OF 'stanzalaw07.PatsLimits'. -/
def patsLimitsCard : Claim7 := { stood := { row := patsLimitsRow, standIns := [], harness := (true, "272b90a8e68ae05ed90307455d27a7a3ebfc461c6c64e21e965f312039afd170"), looks := false }, kinds := [], alts := [], laidByText := true, laidKinds := [.data, .pinned], laidTests := true, laidLooks := .later }
def PatsLimitsCardSaid : Prop := Claim7.holds Tryd.pinned (.plain (OpenSpec.ofChange patsLimitsSpec)) patsLimitsCard

/-- THE TIED CARD OF 'stanzalaw07.PatsJoins'. -/
def patsJoinsCard : Claim7 := { stood := { row := patsJoinsRow, standIns := [], harness := (true, "272b90a8e68ae05ed90307455d27a7a3ebfc461c6c64e21e965f312039afd170"), looks := false }, kinds := [], alts := [], laidByText := true, laidKinds := [.data, .pinned], laidTests := true, laidLooks := .later }
def PatsJoinsCardSaid : Prop := Claim7.holds Tryd.pinned (.plain (OpenSpec.ofChange patsJoinsSpec)) patsJoinsCard

/-- THE SECOND FORM's CARD OF 'stanzalaw07.PatsTexts'. -/
def patsTextsUptoCard : Claim7 := { stood := { row := patsTextsUptoRow, standIns := [], harness := (true, "272b90a8e68ae05ed90307455d27a7a3ebfc461c6c64e21e965f312039afd170"), looks := false }, kinds := [], alts := [], laidByText := true, laidKinds := [.data, .pinned], laidTests := true, laidLooks := .later }
def PatsTextsUptoCardSaid : Prop := Claim7.holds Tryd.pinned (.plain (OpenSpec.upto patsTextsSpec)) patsTextsUptoCard

/-- THE SECOND FORM's CARD OF 'stanzalaw07.PatsWords'. -/
def patsWordsUptoCard : Claim7 := { stood := { row := patsWordsUptoRow, standIns := [], harness := (true, "272b90a8e68ae05ed90307455d27a7a3ebfc461c6c64e21e965f312039afd170"), looks := false }, kinds := [], alts := [], laidByText := true, laidKinds := [.data, .pinned], laidTests := true, laidLooks := .later }
def PatsWordsUptoCardSaid : Prop := Claim7.holds Tryd.pinned (.plain (OpenSpec.upto patsWordsSpec)) patsWordsUptoCard

/-- THE SECOND FORM's CARD OF 'stanzalaw07.PatsBack'. -/
def patsBackUptoCard : Claim7 := { stood := { row := patsBackUptoRow, standIns := [], harness := (true, "272b90a8e68ae05ed90307455d27a7a3ebfc461c6c64e21e965f312039afd170"), looks := false }, kinds := [], alts := [], laidByText := true, laidKinds := [.data, .pinned], laidTests := true, laidLooks := .later }
def PatsBackUptoCardSaid : Prop := Claim7.holds Tryd.pinned (.plain (OpenSpec.upto patsBackSpec)) patsBackUptoCard

/-- THE SECOND FORM's CARD OF 'stanzalaw07.PatsLimits'. -/
def patsLimitsUptoCard : Claim7 := { stood := { row := patsLimitsUptoRow, standIns := [], harness := (true, "272b90a8e68ae05ed90307455d27a7a3ebfc461c6c64e21e965f312039afd170"), looks := false }, kinds := [], alts := [], laidByText := true, laidKinds := [.data, .pinned], laidTests := true, laidLooks := .later }
def PatsLimitsUptoCardSaid : Prop := Claim7.holds Tryd.pinned (.plain (OpenSpec.upto patsLimitsSpec)) patsLimitsUptoCard

/-- THE SECOND FORM's CARD OF 'stanzalaw07.PatsJoins'. -/
def patsJoinsUptoCard : Claim7 := { stood := { row := patsJoinsUptoRow, standIns := [], harness := (true, "272b90a8e68ae05ed90307455d27a7a3ebfc461c6c64e21e965f312039afd170"), looks := false }, kinds := [], alts := [], laidByText := true, laidKinds := [.data, .pinned], laidTests := true, laidLooks := .later }
def PatsJoinsUptoCardSaid : Prop := Claim7.holds Tryd.pinned (.plain (OpenSpec.upto patsJoinsSpec)) patsJoinsUptoCard
end Rows
end Go.Proofs.YtjgbfpemkjpikaaDoor
