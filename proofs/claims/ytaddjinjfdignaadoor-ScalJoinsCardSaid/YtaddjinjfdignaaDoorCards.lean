/-
  DERIVED. GIVEN WITH THE SEED: THE CARDS: each row of YtaddjinjfdignaaDoorRows.lean that lists a variable, with what it lists TIED to the program's text (the seventh form; the later family's looks); each row that meets fmt, with fmt's text TOLD by the authors' own Lean function (tested against real Go, not proved from fmt's source: count such statements apart). THE CARD IS WHAT COUNTS. Prove the row's statement (the work); the ties are given (YtaddjinjfdignaaDoorTie.lean); close each card by the builder's one call (the guide's Derived/Test/ToyasCard.lean, 'card_holds'). Laid BY PROGRAM, IN A SANDBOX (cutbox-door.mjs). By AI agents, Wed Nov 11 2026. No macro, syntax, notation, axiom, sorry.
-/
import Derived.Test.YtaddjinjfdignaaDoorRows
import GoSem.ClaimSeven
namespace Go.Proofs.YtaddjinjfdignaaDoor
namespace Rows

/-- THE TIED CARD OF 'stanzalaw01.ScalAll'. -/
def scalAllCard : Claim7 := { stood := { row := scalAllRow, standIns := [], harness := (true, "51b1d597de04fd3fe5cfdf067af53d140b5dd55f56522b4b3e7c46a8b5902397"), looks := false }, kinds := [], alts := [], laidByText := true, laidKinds := [.data, .pinned], laidTests := true, laidLooks := .later }
def ScalAllCardSaid : Prop := Claim7.holds Tryd.pinned (.plain (OpenSpec.ofChange scalAllSpec)) scalAllCard

/-- THE TIED CARD OF 'stanzalaw01.ScalOne'. -/
def scalOneCard : Claim7 := { stood := { row := scalOneRow, standIns := [], harness := (true, "51b1d597de04fd3fe5cfdf067af53d140b5dd55f56522b4b3e7c46a8b5902397"), looks := false }, kinds := [], alts := [], laidByText := true, laidKinds := [.data, .pinned], laidTests := true, laidLooks := .later }
def ScalOneCardSaid : Prop := Claim7.holds Tryd.pinned (.plain (OpenSpec.ofChange scalOneSpec)) scalOneCard

/-- THE TIED CARD OF 'stanzalaw01.ScalWhole'. -/
def scalWholeCard : Claim7 := { stood := { row := scalWholeRow, standIns := [], harness := (true, "51b1d597de04fd3fe5cfdf067af53d140b5dd55f56522b4b3e7c46a8b5902397"), looks := false }, kinds := [], alts := [], laidByText := true, laidKinds := [.data, .pinned], laidTests := true, laidLooks := .later }
def ScalWholeCardSaid : Prop := Claim7.holds Tryd.pinned (.plain (OpenSpec.ofChange scalWholeSpec)) scalWholeCard

/-- THE TIED CARD OF 'stanzalaw01.ScalPuts'. -/
def scalPutsCard : Claim7 := { stood := { row := scalPutsRow, standIns := [], harness := (true, "51b1d597de04fd3fe5cfdf067af53d140b5dd55f56522b4b3e7c46a8b5902397"), looks := false }, kinds := [], alts := [], laidByText := true, laidKinds := [.data, .pinned], laidTests := true, laidLooks := .later }
def ScalPutsCardSaid : Prop := Claim7.holds Tryd.pinned (.plain (OpenSpec.ofChange scalPutsSpec)) scalPutsCard

/-- THE TIED CARD OF 'stanzalaw01.ScalFinds'. -/
def scalFindsCard : Claim7 := { stood := { row := scalFindsRow, standIns := [], harness := (true, "51b1d597de04fd3fe5cfdf067af53d140b5dd55f56522b4b3e7c46a8b5902397"), looks := false }, kinds := [], alts := [], laidByText := true, laidKinds := [.data, .pinned], laidTests := true, laidLooks := .later }
def ScalFindsCardSaid : Prop := Claim7.holds Tryd.pinned (.plain (OpenSpec.ofChange scalFindsSpec)) scalFindsCard

/-- THE TIED CARD OF 'stanzalaw01.ScalJoins'. -/
def scalJoinsCard : Claim7 := { stood := { row := scalJoinsRow, standIns := [], harness := (true, "51b1d597de04fd3fe5cfdf067af53d140b5dd55f56522b4b3e7c46a8b5902397"), looks := false }, kinds := [], alts := [], laidByText := true, laidKinds := [.data, .pinned], laidTests := true, laidLooks := .later }
def ScalJoinsCardSaid : Prop := Claim7.holds Tryd.pinned (.plain (OpenSpec.ofChange scalJoinsSpec)) scalJoinsCard

/-- THE SECOND FORM's CARD OF 'stanzalaw01.ScalAll'. -/
def scalAllUptoCard : Claim7 := { stood := { row := scalAllUptoRow, standIns := [], harness := (true, "51b1d597de04fd3fe5cfdf067af53d140b5dd55f56522b4b3e7c46a8b5902397"), looks := false }, kinds := [], alts := [], laidByText := true, laidKinds := [.data, .pinned], laidTests := true, laidLooks := .later }
def ScalAllUptoCardSaid : Prop := Claim7.holds Tryd.pinned (.plain (OpenSpec.upto scalAllSpec)) scalAllUptoCard

/-- THE SECOND FORM's CARD OF 'stanzalaw01.ScalOne'. -/
def scalOneUptoCard : Claim7 := { stood := { row := scalOneUptoRow, standIns := [], harness := (true, "51b1d597de04fd3fe5cfdf067af53d140b5dd55f56522b4b3e7c46a8b5902397"), looks := false }, kinds := [], alts := [], laidByText := true, laidKinds := [.data, .pinned], laidTests := true, laidLooks := .later }
def ScalOneUptoCardSaid : Prop := Claim7.holds Tryd.pinned (.plain (OpenSpec.upto scalOneSpec)) scalOneUptoCard

/-- THE SECOND FORM's CARD OF 'stanzalaw01.ScalWhole'. -/
def scalWholeUptoCard : Claim7 := { stood := { row := scalWholeUptoRow, standIns := [], harness := (true, "51b1d597de04fd3fe5cfdf067af53d140b5dd55f56522b4b3e7c46a8b5902397"), looks := false }, kinds := [], alts := [], laidByText := true, laidKinds := [.data, .pinned], laidTests := true, laidLooks := .later }
def ScalWholeUptoCardSaid : Prop := Claim7.holds Tryd.pinned (.plain (OpenSpec.upto scalWholeSpec)) scalWholeUptoCard

/-- THE SECOND FORM's CARD OF 'stanzalaw01.ScalPuts'. -/
def scalPutsUptoCard : Claim7 := { stood := { row := scalPutsUptoRow, standIns := [], harness := (true, "51b1d597de04fd3fe5cfdf067af53d140b5dd55f56522b4b3e7c46a8b5902397"), looks := false }, kinds := [], alts := [], laidByText := true, laidKinds := [.data, .pinned], laidTests := true, laidLooks := .later }
def ScalPutsUptoCardSaid : Prop := Claim7.holds Tryd.pinned (.plain (OpenSpec.upto scalPutsSpec)) scalPutsUptoCard

/-- THE SECOND FORM's CARD OF 'stanzalaw01.ScalFinds'. -/
def scalFindsUptoCard : Claim7 := { stood := { row := scalFindsUptoRow, standIns := [], harness := (true, "51b1d597de04fd3fe5cfdf067af53d140b5dd55f56522b4b3e7c46a8b5902397"), looks := false }, kinds := [], alts := [], laidByText := true, laidKinds := [.data, .pinned], laidTests := true, laidLooks := .later }
def ScalFindsUptoCardSaid : Prop := Claim7.holds Tryd.pinned (.plain (OpenSpec.upto scalFindsSpec)) scalFindsUptoCard

/-- THE SECOND FORM's CARD OF 'stanzalaw01.ScalJoins'. -/
def scalJoinsUptoCard : Claim7 := { stood := { row := scalJoinsUptoRow, standIns := [], harness := (true, "51b1d597de04fd3fe5cfdf067af53d140b5dd55f56522b4b3e7c46a8b5902397"), looks := false }, kinds := [], alts := [], laidByText := true, laidKinds := [.data, .pinned], laidTests := true, laidLooks := .later }
def ScalJoinsUptoCardSaid : Prop := Claim7.holds Tryd.pinned (.plain (OpenSpec.upto scalJoinsSpec)) scalJoinsUptoCard
end Rows
end Go.Proofs.YtaddjinjfdignaaDoor
