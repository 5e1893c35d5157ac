/-
  DERIVED. GIVEN WITH THE SEED: THE CARDS: each row of YtecbmonbeogdjaaDoorRows.lean that lists a variable, with what it lists TIED to the program's text (the seventh form; the later family's looks); each row that meets fmt, with fmt's text TOLD by the authors' own Lean function (tested against real Go, not proved from fmt's source: count such statements apart). THE CARD IS WHAT COUNTS. Prove the row's statement (the work); the ties are given (YtecbmonbeogdjaaDoorTie.lean); close each card by the builder's one call (the guide's Derived/Test/ToyasCard.lean, 'card_holds'). Laid BY PROGRAM, IN A SANDBOX (cutbox-door.mjs). By AI agents, Wed Nov 11 2026. No macro, syntax, notation, axiom, sorry.
-/
import Derived.Test.YtecbmonbeogdjaaDoorRows
import GoSem.ClaimSeven
namespace Go.Proofs.YtecbmonbeogdjaaDoor
namespace Rows

/-- THE TIED CARD OF 'footbridgelaw08.MergeWrites'. -/
def mergeWritesCard : Claim7 := { stood := { row := mergeWritesRow, standIns := [], harness := (true, "51c3d3caed18940b3dfc16f9f59452208eac5233ab897c2b0e9303f77eaca6f1"), looks := false }, kinds := [], alts := [], laidByText := true, laidKinds := [.data, .data, .data], laidTests := true, laidLooks := .later }
def MergeWritesCardSaid : Prop := Claim7.holds Tryd.pinned (.plain (OpenSpec.ofChange mergeWritesSpec)) mergeWritesCard

/-- THE TIED CARD OF 'footbridgelaw08.MergeParts'. -/
def mergePartsCard : Claim7 := { stood := { row := mergePartsRow, standIns := [], harness := (true, "51c3d3caed18940b3dfc16f9f59452208eac5233ab897c2b0e9303f77eaca6f1"), looks := false }, kinds := [], alts := [], laidByText := true, laidKinds := [.data, .data, .data], laidTests := true, laidLooks := .later }
def MergePartsCardSaid : Prop := Claim7.holds Tryd.pinned (.plain (OpenSpec.ofChange mergePartsSpec)) mergePartsCard

/-- THE TIED CARD OF 'footbridgelaw08.MergeOne'. -/
def mergeOneCard : Claim7 := { stood := { row := mergeOneRow, standIns := [], harness := (true, "51c3d3caed18940b3dfc16f9f59452208eac5233ab897c2b0e9303f77eaca6f1"), looks := false }, kinds := [], alts := [], laidByText := true, laidKinds := [.data, .data, .data], laidTests := true, laidLooks := .later }
def MergeOneCardSaid : Prop := Claim7.holds Tryd.pinned (.plain (OpenSpec.ofChange mergeOneSpec)) mergeOneCard

/-- THE SECOND FORM's CARD OF 'footbridgelaw08.MergeWrites'. -/
def mergeWritesUptoCard : Claim7 := { stood := { row := mergeWritesUptoRow, standIns := [], harness := (true, "51c3d3caed18940b3dfc16f9f59452208eac5233ab897c2b0e9303f77eaca6f1"), looks := false }, kinds := [], alts := [], laidByText := true, laidKinds := [.data, .data, .data], laidTests := true, laidLooks := .later }
def MergeWritesUptoCardSaid : Prop := Claim7.holds Tryd.pinned (.plain (OpenSpec.upto mergeWritesSpec)) mergeWritesUptoCard

/-- THE SECOND FORM's CARD OF 'footbridgelaw08.MergeParts'. -/
def mergePartsUptoCard : Claim7 := { stood := { row := mergePartsUptoRow, standIns := [], harness := (true, "51c3d3caed18940b3dfc16f9f59452208eac5233ab897c2b0e9303f77eaca6f1"), looks := false }, kinds := [], alts := [], laidByText := true, laidKinds := [.data, .data, .data], laidTests := true, laidLooks := .later }
def MergePartsUptoCardSaid : Prop := Claim7.holds Tryd.pinned (.plain (OpenSpec.upto mergePartsSpec)) mergePartsUptoCard

/-- THE SECOND FORM's CARD OF 'footbridgelaw08.MergeOne'. -/
def mergeOneUptoCard : Claim7 := { stood := { row := mergeOneUptoRow, standIns := [], harness := (true, "51c3d3caed18940b3dfc16f9f59452208eac5233ab897c2b0e9303f77eaca6f1"), looks := false }, kinds := [], alts := [], laidByText := true, laidKinds := [.data, .data, .data], laidTests := true, laidLooks := .later }
def MergeOneUptoCardSaid : Prop := Claim7.holds Tryd.pinned (.plain (OpenSpec.upto mergeOneSpec)) mergeOneUptoCard
end Rows
end Go.Proofs.YtecbmonbeogdjaaDoor
