/-
  DERIVED. GIVEN WITH THE SEED: THE CARDS: each row of YtlomdihpdaealaaDoorRows.lean that lists a variable, with what it lists TIED to the program's text (the seventh form; the later family's looks); each row that meets fmt, with fmt's text TOLD by the authors' own Lean function (tested against real Go, not proved from fmt's source: count such statements apart). THE CARD IS WHAT COUNTS. Prove the row's statement (the work); the ties are given (YtlomdihpdaealaaDoorTie.lean); close each card by the builder's one call (the guide's Derived/Test/ToyasCard.lean, 'card_holds'). Laid BY PROGRAM, IN A SANDBOX (cutbox-door.mjs). By AI agents, Wed Nov 11 2026. No macro, syntax, notation, axiom, sorry.
-/
import Derived.Test.YtlomdihpdaealaaDoorRows
import GoSem.ClaimSeven
namespace Go.Proofs.YtlomdihpdaealaaDoor
namespace Rows

/-- THE TIED CARD OF 'footbridgelaw12.ScanNexts'. -/
def scanNextsCard : Claim7 := { stood := { row := scanNextsRow, standIns := [], harness := (true, "580ef2720a4a0a99388e3425eaea5cc4efaf94f01002a29dd5c26773bf002acc"), looks := false }, kinds := [], alts := [], laidByText := true, laidKinds := [.data], laidTests := true, laidLooks := .later }
def ScanNextsCardSaid : Prop := Claim7.holds Tryd.pinned (.plain (OpenSpec.ofChange scanNextsSpec)) scanNextsCard

/-- THE TIED CARD OF 'footbridgelaw12.ScanUsual'. -/
def scanUsualCard : Claim7 := { stood := { row := scanUsualRow, standIns := [], harness := (true, "580ef2720a4a0a99388e3425eaea5cc4efaf94f01002a29dd5c26773bf002acc"), looks := false }, kinds := [], alts := [], laidByText := true, laidKinds := [.data], laidTests := true, laidLooks := .later }
def ScanUsualCardSaid : Prop := Claim7.holds Tryd.pinned (.plain (OpenSpec.ofChange scanUsualSpec)) scanUsualCard

/-- THE TIED CARD OF 'footbridgelaw12.ScanStays'. -/
def scanStaysCard : Claim7 := { stood := { row := scanStaysRow, standIns := [], harness := (true, "580ef2720a4a0a99388e3425eaea5cc4efaf94f01002a29dd5c26773bf002acc"), looks := false }, kinds := [], alts := [], laidByText := true, laidKinds := [.data], laidTests := true, laidLooks := .later }
def ScanStaysCardSaid : Prop := Claim7.holds Tryd.pinned (.plain (OpenSpec.ofChange scanStaysSpec)) scanStaysCard

/-- THE TIED CARD OF 'footbridgelaw12.ScanOpen'. -/
def scanOpenCard : Claim7 := { stood := { row := scanOpenRow, standIns := [], harness := (true, "580ef2720a4a0a99388e3425eaea5cc4efaf94f01002a29dd5c26773bf002acc"), looks := false }, kinds := [], alts := [], laidByText := true, laidKinds := [.data], laidTests := true, laidLooks := .later }
def ScanOpenCardSaid : Prop := Claim7.holds Tryd.pinned (.plain (OpenSpec.ofChange scanOpenSpec)) scanOpenCard

/-- THE TIED CARD OF 'footbridgelaw12.ScanFew'. -/
def scanFewCard : Claim7 := { stood := { row := scanFewRow, standIns := [], harness := (true, "580ef2720a4a0a99388e3425eaea5cc4efaf94f01002a29dd5c26773bf002acc"), looks := false }, kinds := [], alts := [], laidByText := true, laidKinds := [.data], laidTests := true, laidLooks := .later }
def ScanFewCardSaid : Prop := Claim7.holds Tryd.pinned (.plain (OpenSpec.ofChange scanFewSpec)) scanFewCard

/-- THE TIED CARD OF 'footbridgelaw12.ScanPieces'. -/
def scanPiecesCard : Claim7 := { stood := { row := scanPiecesRow, standIns := [], harness := (true, "580ef2720a4a0a99388e3425eaea5cc4efaf94f01002a29dd5c26773bf002acc"), looks := false }, kinds := [], alts := [], laidByText := true, laidKinds := [.data], laidTests := true, laidLooks := .later }
def ScanPiecesCardSaid : Prop := Claim7.holds Tryd.pinned (.plain (OpenSpec.ofChange scanPiecesSpec)) scanPiecesCard

/-- THE SECOND FORM's CARD OF 'footbridgelaw12.ScanNexts'. -/
def scanNextsUptoCard : Claim7 := { stood := { row := scanNextsUptoRow, standIns := [], harness := (true, "580ef2720a4a0a99388e3425eaea5cc4efaf94f01002a29dd5c26773bf002acc"), looks := false }, kinds := [], alts := [], laidByText := true, laidKinds := [.data], laidTests := true, laidLooks := .later }
def ScanNextsUptoCardSaid : Prop := Claim7.holds Tryd.pinned (.plain (OpenSpec.upto scanNextsSpec)) scanNextsUptoCard

/-- THE SECOND FORM's CARD OF 'footbridgelaw12.ScanUsual'. -/
def scanUsualUptoCard : Claim7 := { stood := { row := scanUsualUptoRow, standIns := [], harness := (true, "580ef2720a4a0a99388e3425eaea5cc4efaf94f01002a29dd5c26773bf002acc"), looks := false }, kinds := [], alts := [], laidByText := true, laidKinds := [.data], laidTests := true, laidLooks := .later }
def ScanUsualUptoCardSaid : Prop := Claim7.holds Tryd.pinned (.plain (OpenSpec.upto scanUsualSpec)) scanUsualUptoCard

/-- THE SECOND FORM's CARD OF 'footbridgelaw12.ScanStays'. -/
def scanStaysUptoCard : Claim7 := { stood := { row := scanStaysUptoRow, standIns := [], harness := (true, "580ef2720a4a0a99388e3425eaea5cc4efaf94f01002a29dd5c26773bf002acc"), looks := false }, kinds := [], alts := [], laidByText := true, laidKinds := [.data], laidTests := true, laidLooks := .later }
def ScanStaysUptoCardSaid : Prop := Claim7.holds Tryd.pinned (.plain (OpenSpec.upto scanStaysSpec)) scanStaysUptoCard

/-- THE SECOND FORM's CARD OF 'footbridgelaw12.ScanOpen'. -/
def scanOpenUptoCard : Claim7 := { stood := { row := scanOpenUptoRow, standIns := [], harness := (true, "580ef2720a4a0a99388e3425eaea5cc4efaf94f01002a29dd5c26773bf002acc"), looks := false }, kinds := [], alts := [], laidByText := true, laidKinds := [.data], laidTests := true, laidLooks := .later }
def ScanOpenUptoCardSaid : Prop := Claim7.holds Tryd.pinned (.plain (OpenSpec.upto scanOpenSpec)) scanOpenUptoCard

/-- THE SECOND FORM's CARD OF 'footbridgelaw12.ScanFew'. -/
def scanFewUptoCard : Claim7 := { stood := { row := scanFewUptoRow, standIns := [], harness := (true, "580ef2720a4a0a99388e3425eaea5cc4efaf94f01002a29dd5c26773bf002acc"), looks := false }, kinds := [], alts := [], laidByText := true, laidKinds := [.data], laidTests := true, laidLooks := .later }
def ScanFewUptoCardSaid : Prop := Claim7.holds Tryd.pinned (.plain (OpenSpec.upto scanFewSpec)) scanFewUptoCard

/-- THE SECOND FORM's CARD OF 'footbridgelaw12.ScanPieces'. -/
def scanPiecesUptoCard : Claim7 := { stood := { row := scanPiecesUptoRow, standIns := [], harness := (true, "580ef2720a4a0a99388e3425eaea5cc4efaf94f01002a29dd5c26773bf002acc"), looks := false }, kinds := [], alts := [], laidByText := true, laidKinds := [.data], laidTests := true, laidLooks := .later }
def ScanPiecesUptoCardSaid : Prop := Claim7.holds Tryd.pinned (.plain (OpenSpec.upto scanPiecesSpec)) scanPiecesUptoCard
end Rows
end Go.Proofs.YtlomdihpdaealaaDoor
