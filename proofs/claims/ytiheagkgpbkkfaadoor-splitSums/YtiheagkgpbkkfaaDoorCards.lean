/-
  DERIVED. GIVEN WITH THE SEED: THE CARDS: each row of YtiheagkgpbkkfaaDoorRows.lean that lists a variable, with what it lists TIED to the program's text (the seventh form; the later family's looks); each row that meets fmt, with fmt's text TOLD by the authors' own Lean function (tested against real Go, not proved from fmt's source: count such statements apart). THE CARD IS WHAT COUNTS. Prove the row's statement (the work); the ties are given (YtiheagkgpbkkfaaDoorTie.lean); close each card by the builder's one call (the guide's Derived/Test/ToyasCard.lean, 'card_holds'). Laid BY PROGRAM, IN A SANDBOX (cutbox-door.mjs). By AI agents, Wed Nov 11 2026. No macro, syntax, notation, axiom, sorry.
-/
import Derived.Test.YtiheagkgpbkkfaaDoorRows
import GoSem.ClaimSeven
namespace Go.Proofs.YtiheagkgpbkkfaaDoor
namespace Rows

/-- THE TIED CARD OF 'footbridgelaw13.SplitPieces'. -/
def splitPiecesCard : Claim7 := { stood := { row := splitPiecesRow, standIns := [], harness := (true, "7d5d2b2ed4da3c1cddf8182f71d9d153bc95375a9a2b5520c3f87c2270157da2"), looks := false }, kinds := [], alts := [], laidByText := true, laidKinds := [.data], laidTests := true, laidLooks := .later }
def SplitPiecesCardSaid : Prop := Claim7.holds Tryd.pinned (.plain (OpenSpec.ofChange splitPiecesSpec)) splitPiecesCard

/-- THE TIED CARD OF 'footbridgelaw13.SplitStays'. -/
def splitStaysCard : Claim7 := { stood := { row := splitStaysRow, standIns := [], harness := (true, "7d5d2b2ed4da3c1cddf8182f71d9d153bc95375a9a2b5520c3f87c2270157da2"), looks := false }, kinds := [], alts := [], laidByText := true, laidKinds := [.data], laidTests := true, laidLooks := .later }
def SplitStaysCardSaid : Prop := Claim7.holds Tryd.pinned (.plain (OpenSpec.ofChange splitStaysSpec)) splitStaysCard

/-- THE TIED CARD OF 'footbridgelaw13.SplitMarks'. -/
def splitMarksCard : Claim7 := { stood := { row := splitMarksRow, standIns := [], harness := (true, "7d5d2b2ed4da3c1cddf8182f71d9d153bc95375a9a2b5520c3f87c2270157da2"), looks := false }, kinds := [], alts := [], laidByText := true, laidKinds := [.data], laidTests := true, laidLooks := .later }
def SplitMarksCardSaid : Prop := Claim7.holds Tryd.pinned (.plain (OpenSpec.ofChange splitMarksSpec)) splitMarksCard

/-- THE TIED CARD OF 'footbridgelaw13.SplitSums'. -/
def splitSumsCard : Claim7 := { stood := { row := splitSumsRow, standIns := [], harness := (true, "7d5d2b2ed4da3c1cddf8182f71d9d153bc95375a9a2b5520c3f87c2270157da2"), looks := false }, kinds := [], alts := [], laidByText := true, laidKinds := [.data], laidTests := true, laidLooks := .later }
def SplitSumsCardSaid : Prop := Claim7.holds Tryd.pinned (.plain (OpenSpec.ofChange splitSumsSpec)) splitSumsCard

/-- THE TIED CARD OF 'footbridgelaw13.SplitFew'. -/
def splitFewCard : Claim7 := { stood := { row := splitFewRow, standIns := [], harness := (true, "7d5d2b2ed4da3c1cddf8182f71d9d153bc95375a9a2b5520c3f87c2270157da2"), looks := false }, kinds := [], alts := [], laidByText := true, laidKinds := [.data], laidTests := true, laidLooks := .later }
def SplitFewCardSaid : Prop := Claim7.holds Tryd.pinned (.plain (OpenSpec.ofChange splitFewSpec)) splitFewCard

/-- THE SECOND FORM's CARD OF 'footbridgelaw13.SplitPieces'. -/
def splitPiecesUptoCard : Claim7 := { stood := { row := splitPiecesUptoRow, standIns := [], harness := (true, "7d5d2b2ed4da3c1cddf8182f71d9d153bc95375a9a2b5520c3f87c2270157da2"), looks := false }, kinds := [], alts := [], laidByText := true, laidKinds := [.data], laidTests := true, laidLooks := .later }
def SplitPiecesUptoCardSaid : Prop := Claim7.holds Tryd.pinned (.plain (OpenSpec.upto splitPiecesSpec)) splitPiecesUptoCard

/-- THE SECOND FORM's CARD OF 'footbridgelaw13.SplitStays'. -/
def splitStaysUptoCard : Claim7 := { stood := { row := splitStaysUptoRow, standIns := [], harness := (true, "7d5d2b2ed4da3c1cddf8182f71d9d153bc95375a9a2b5520c3f87c2270157da2"), looks := false }, kinds := [], alts := [], laidByText := true, laidKinds := [.data], laidTests := true, laidLooks := .later }
def SplitStaysUptoCardSaid : Prop := Claim7.holds Tryd.pinned (.plain (OpenSpec.upto splitStaysSpec)) splitStaysUptoCard

/-- THE SECOND FORM's CARD OF 'footbridgelaw13.SplitMarks'. -/
def splitMarksUptoCard : Claim7 := { stood := { row := splitMarksUptoRow, standIns := [], harness := (true, "7d5d2b2ed4da3c1cddf8182f71d9d153bc95375a9a2b5520c3f87c2270157da2"), looks := false }, kinds := [], alts := [], laidByText := true, laidKinds := [.data], laidTests := true, laidLooks := .later }
def SplitMarksUptoCardSaid : Prop := Claim7.holds Tryd.pinned (.plain (OpenSpec.upto splitMarksSpec)) splitMarksUptoCard

/-- THE SECOND FORM's CARD OF 'footbridgelaw13.SplitSums'. -/
def splitSumsUptoCard : Claim7 := { stood := { row := splitSumsUptoRow, standIns := [], harness := (true, "7d5d2b2ed4da3c1cddf8182f71d9d153bc95375a9a2b5520c3f87c2270157da2"), looks := false }, kinds := [], alts := [], laidByText := true, laidKinds := [.data], laidTests := true, laidLooks := .later }
def SplitSumsUptoCardSaid : Prop := Claim7.holds Tryd.pinned (.plain (OpenSpec.upto splitSumsSpec)) splitSumsUptoCard

/-- THE SECOND FORM's CARD OF 'footbridgelaw13.SplitFew'. -/
def splitFewUptoCard : Claim7 := { stood := { row := splitFewUptoRow, standIns := [], harness := (true, "7d5d2b2ed4da3c1cddf8182f71d9d153bc95375a9a2b5520c3f87c2270157da2"), looks := false }, kinds := [], alts := [], laidByText := true, laidKinds := [.data], laidTests := true, laidLooks := .later }
def SplitFewUptoCardSaid : Prop := Claim7.holds Tryd.pinned (.plain (OpenSpec.upto splitFewSpec)) splitFewUptoCard
end Rows
end Go.Proofs.YtiheagkgpbkkfaaDoor
