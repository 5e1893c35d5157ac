/-
  DERIVED. GIVEN WITH THE SEED: THE CARDS: each row of YthemaacfjmcbnaaDoorRows.lean that lists a variable, with what it lists TIED to the program's text (the seventh form; the later family's looks); each row that meets fmt, with fmt's text TOLD by the authors' own Lean function (tested against real Go, not proved from fmt's source: count such statements apart). THE CARD IS WHAT COUNTS. Prove the row's statement (the work); the ties are given (YthemaacfjmcbnaaDoorTie.lean); close each card by the builder's one call (the guide's Derived/Test/ToyasCard.lean, 'card_holds'). Laid BY PROGRAM, IN A SANDBOX (cutbox-door.mjs). By AI agents, Wed Nov 11 2026. No macro, syntax, notation, axiom, sorry.
-/
import Derived.Test.YthemaacfjmcbnaaDoorRows
import GoSem.ClaimSeven
namespace Go.Proofs.YthemaacfjmcbnaaDoor
namespace Rows

/-- THE TIED CARD OF 'footbridgelaw07.RankWrites'. -/
def rankWritesCard : Claim7 := { stood := { row := rankWritesRow, standIns := [], harness := (true, "71b63f7d46885fd88b7db2f067b7ae9066239a770903b1046f512de031864cc0"), looks := false }, kinds := [], alts := [], laidByText := true, laidKinds := [.data, .data, .data], laidTests := true, laidLooks := .later }
def RankWritesCardSaid : Prop := Claim7.holds Tryd.pinned (.plain (OpenSpec.ofChange rankWritesSpec)) rankWritesCard

/-- THE TIED CARD OF 'footbridgelaw07.RankLines'. -/
def rankLinesCard : Claim7 := { stood := { row := rankLinesRow, standIns := [], harness := (true, "71b63f7d46885fd88b7db2f067b7ae9066239a770903b1046f512de031864cc0"), looks := false }, kinds := [], alts := [], laidByText := true, laidKinds := [.data, .data, .data], laidTests := true, laidLooks := .later }
def RankLinesCardSaid : Prop := Claim7.holds Tryd.pinned (.plain (OpenSpec.ofChange rankLinesSpec)) rankLinesCard

/-- THE TIED CARD OF 'footbridgelaw07.RankLong'. -/
def rankLongCard : Claim7 := { stood := { row := rankLongRow, standIns := [], harness := (true, "71b63f7d46885fd88b7db2f067b7ae9066239a770903b1046f512de031864cc0"), looks := false }, kinds := [], alts := [], laidByText := true, laidKinds := [.data, .data, .data], laidTests := true, laidLooks := .later }
def RankLongCardSaid : Prop := Claim7.holds Tryd.pinned (.plain (OpenSpec.ofChange rankLongSpec)) rankLongCard

/-- THE SECOND FORM's CARD OF 'footbridgelaw07.RankWrites'. -/
def rankWritesUptoCard : Claim7 := { stood := { row := rankWritesUptoRow, standIns := [], harness := (true, "71b63f7d46885fd88b7db2f067b7ae9066239a770903b1046f512de031864cc0"), looks := false }, kinds := [], alts := [], laidByText := true, laidKinds := [.data, .data, .data], laidTests := true, laidLooks := .later }
def RankWritesUptoCardSaid : Prop := Claim7.holds Tryd.pinned (.plain (OpenSpec.upto rankWritesSpec)) rankWritesUptoCard

/-- THE SECOND FORM's CARD OF 'footbridgelaw07.RankLines'. -/
def rankLinesUptoCard : Claim7 := { stood := { row := rankLinesUptoRow, standIns := [], harness := (true, "71b63f7d46885fd88b7db2f067b7ae9066239a770903b1046f512de031864cc0"), looks := false }, kinds := [], alts := [], laidByText := true, laidKinds := [.data, .data, .data], laidTests := true, laidLooks := .later }
def RankLinesUptoCardSaid : Prop := Claim7.holds Tryd.pinned (.plain (OpenSpec.upto rankLinesSpec)) rankLinesUptoCard

/-- THE SECOND FORM's CARD OF 'footbridgelaw07.RankLong'. -/
def rankLongUptoCard : Claim7 := { stood := { row := rankLongUptoRow, standIns := [], harness := (true, "71b63f7d46885fd88b7db2f067b7ae9066239a770903b1046f512de031864cc0"), looks := false }, kinds := [], alts := [], laidByText := true, laidKinds := [.data, .data, .data], laidTests := true, laidLooks := .later }
def RankLongUptoCardSaid : Prop := Claim7.holds Tryd.pinned (.plain (OpenSpec.upto rankLongSpec)) rankLongUptoCard
end Rows
end Go.Proofs.YthemaacfjmcbnaaDoor
