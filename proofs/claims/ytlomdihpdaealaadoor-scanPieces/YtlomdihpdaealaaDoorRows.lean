/-
  NARROWER THAN 'FOR EVERY INPUT', by the rows' own cells (each row's printed sentence says how): ScanNexts: laid · ScanUsual: laid · ScanStays: laid · ScanOpen: laid · ScanFew: laid · ScanPieces: laid.
  DERIVED. THE GIVEN ROWS OF THIS SEAT. 6 by the template 'for every input the law returns true; each argument reads behind the call as it read before'; 0 by the template 'total and deterministic' (their statements: YtlomdihpdaealaaDoorTotals.lean).
  GIVEN WITH THE SEED: the statements are not yours to turn. If you find one false, say at which input.
  Laid BY PROGRAM, IN A SANDBOX (cutbox-rows.mjs): the forced cells as the released guide's own fill.sh prints them over the translation d1a72481b95776b8… (all of the seat's roots in one cut). By AI agents, Wed Nov 11 2026. No macro, syntax, notation, axiom, sorry.
-/
import Derived.Test.YtlomdihpdaealaaDoorChecked
import GoSem.Claim
import GoSem.ClaimJoined
import GoSem.ClaimMapViews
import Derived.JoinedTies
import Derived.KernelRfl
namespace Go.Proofs.YtlomdihpdaealaaDoor
/- THE CELL 'sum', in the pinned program and in every row, IS THE sha256 OF THE DUMP (.gsa) THAT YtlomdihpdaealaaDoorProg.lean LOADS. Nothing in Lean hashes anything: it is a label: what it is worth is what the hold of that sum in a sandbox is worth. -/
noncomputable def Tryd.pinned : Pinned := { name := "ytlomdihpdaealaadoor", sum := "d1a72481b95776b87f41714567f7295fed0f63d695db78e638c2536d97436e69", checked := Tryd.checked }
namespace Rows
def none {H : Type} : Left H := { results := [], args := [] }

/- WHAT THE LISTED PACKAGE-LEVEL VARIABLES READ AS WHEN THE CALL BEGINS. Each datum BY PROGRAM (the guide's laid-datum.mjs) off the statement by which the dump's own 'gosem.cut.vars' lays the variable. In a bare row this is a premise. The card (YtlomdihpdaealaaDoorCards.lean) ties it to the program's text. -/
def laid_footbridge_scan_endings {H : Type} : DataW H := .agg [.lit (.string [39, 115]), .lit (.string [39, 116]), .lit (.string [39, 109]), .lit (.string [39, 100]), .lit (.string [39, 114, 101]), .lit (.string [39, 118, 101]), .lit (.string [39, 108, 108])]

/-- 'footbridgelaw12.ScanNexts': WHATEVER THE INPUT: true; the input reads as it did. -/
def scanNextsSpec : ChangeSpec := { name := "scanNexts", fn := fun _ => fun
  | [d1, d2, d3, d4] => { results := [.lit (.bool true)], args := [d1, d2, d3, d4] }
  | _ => none }
def scanNextsRow : OpenClaim := { program := "ytlomdihpdaealaadoor", sum := "d1a72481b95776b87f41714567f7295fed0f63d695db78e638c2536d97436e69", func := "footbridge/footbridgelaw12.ScanNexts", spec := "scanNexts", unfollowed := true, recurses := true, named := ["footbridge/scan.endings"], apart := false, laid := [("footbridge/scan.endings", laid_footbridge_scan_endings)] }
def ScanNextsSaid : Prop := scanNextsRow.holds Tryd.pinned (OpenSpec.ofChange scanNextsSpec)

/-- ITS FALSE NEIGHBOUR: 'it returns false'. Refute it at one input. -/
def scanNextsWrong : ChangeSpec := { name := "scanNexts", fn := fun _ => fun
  | [d1, d2, d3, d4] => { results := [.lit (.bool false)], args := [d1, d2, d3, d4] }
  | _ => none }
def ScanNextsWrongFalsely : Prop := scanNextsRow.holds Tryd.pinned (OpenSpec.ofChange scanNextsWrong)

/-- 'footbridgelaw12.ScanUsual': WHATEVER THE INPUT: true; the input reads as it did. -/
def scanUsualSpec : ChangeSpec := { name := "scanUsual", fn := fun _ => fun
  | [d1, d2, d3] => { results := [.lit (.bool true)], args := [d1, d2, d3] }
  | _ => none }
def scanUsualRow : OpenClaim := { program := "ytlomdihpdaealaadoor", sum := "d1a72481b95776b87f41714567f7295fed0f63d695db78e638c2536d97436e69", func := "footbridge/footbridgelaw12.ScanUsual", spec := "scanUsual", unfollowed := true, recurses := true, named := ["footbridge/scan.endings"], apart := false, laid := [("footbridge/scan.endings", laid_footbridge_scan_endings)] }
def ScanUsualSaid : Prop := scanUsualRow.holds Tryd.pinned (OpenSpec.ofChange scanUsualSpec)

/-- ITS FALSE NEIGHBOUR: 'it returns false'. Refute it at one input. -/
def scanUsualWrong : ChangeSpec := { name := "scanUsual", fn := fun _ => fun
  | [d1, d2, d3] => { results := [.lit (.bool false)], args := [d1, d2, d3] }
  | _ => none }
def ScanUsualWrongFalsely : Prop := scanUsualRow.holds Tryd.pinned (OpenSpec.ofChange scanUsualWrong)

/-- 'footbridgelaw12.ScanStays': WHATEVER THE INPUT: true; the input reads as it did. -/
def scanStaysSpec : ChangeSpec := { name := "scanStays", fn := fun _ => fun
  | [d1, d2, d3, d4, d5] => { results := [.lit (.bool true)], args := [d1, d2, d3, d4, d5] }
  | _ => none }
def scanStaysRow : OpenClaim := { program := "ytlomdihpdaealaadoor", sum := "d1a72481b95776b87f41714567f7295fed0f63d695db78e638c2536d97436e69", func := "footbridge/footbridgelaw12.ScanStays", spec := "scanStays", unfollowed := true, recurses := true, named := ["footbridge/scan.endings"], apart := false, laid := [("footbridge/scan.endings", laid_footbridge_scan_endings)] }
def ScanStaysSaid : Prop := scanStaysRow.holds Tryd.pinned (OpenSpec.ofChange scanStaysSpec)

/-- ITS FALSE NEIGHBOUR: 'it returns false'. Refute it at one input. -/
def scanStaysWrong : ChangeSpec := { name := "scanStays", fn := fun _ => fun
  | [d1, d2, d3, d4, d5] => { results := [.lit (.bool false)], args := [d1, d2, d3, d4, d5] }
  | _ => none }
def ScanStaysWrongFalsely : Prop := scanStaysRow.holds Tryd.pinned (OpenSpec.ofChange scanStaysWrong)

/-- 'footbridgelaw12.ScanOpen': WHATEVER THE INPUT: true; the input reads as it did. -/
def scanOpenSpec : ChangeSpec := { name := "scanOpen", fn := fun _ => fun
  | [d1, d2] => { results := [.lit (.bool true)], args := [d1, d2] }
  | _ => none }
def scanOpenRow : OpenClaim := { program := "ytlomdihpdaealaadoor", sum := "d1a72481b95776b87f41714567f7295fed0f63d695db78e638c2536d97436e69", func := "footbridge/footbridgelaw12.ScanOpen", spec := "scanOpen", unfollowed := true, recurses := true, named := ["footbridge/scan.endings"], apart := false, laid := [("footbridge/scan.endings", laid_footbridge_scan_endings)] }
def ScanOpenSaid : Prop := scanOpenRow.holds Tryd.pinned (OpenSpec.ofChange scanOpenSpec)

/-- ITS FALSE NEIGHBOUR: 'it returns false'. Refute it at one input. -/
def scanOpenWrong : ChangeSpec := { name := "scanOpen", fn := fun _ => fun
  | [d1, d2] => { results := [.lit (.bool false)], args := [d1, d2] }
  | _ => none }
def ScanOpenWrongFalsely : Prop := scanOpenRow.holds Tryd.pinned (OpenSpec.ofChange scanOpenWrong)

/-- 'footbridgelaw12.ScanFew': WHATEVER THE INPUT: true; the input reads as it did. -/
def scanFewSpec : ChangeSpec := { name := "scanFew", fn := fun _ => fun
  | [d1, d2] => { results := [.lit (.bool true)], args := [d1, d2] }
  | _ => none }
def scanFewRow : OpenClaim := { program := "ytlomdihpdaealaadoor", sum := "d1a72481b95776b87f41714567f7295fed0f63d695db78e638c2536d97436e69", func := "footbridge/footbridgelaw12.ScanFew", spec := "scanFew", unfollowed := true, recurses := true, named := ["footbridge/scan.endings"], apart := false, laid := [("footbridge/scan.endings", laid_footbridge_scan_endings)] }
def ScanFewSaid : Prop := scanFewRow.holds Tryd.pinned (OpenSpec.ofChange scanFewSpec)

/-- ITS FALSE NEIGHBOUR: 'it returns false'. Refute it at one input. -/
def scanFewWrong : ChangeSpec := { name := "scanFew", fn := fun _ => fun
  | [d1, d2] => { results := [.lit (.bool false)], args := [d1, d2] }
  | _ => none }
def ScanFewWrongFalsely : Prop := scanFewRow.holds Tryd.pinned (OpenSpec.ofChange scanFewWrong)

/-- 'footbridgelaw12.ScanPieces': WHATEVER THE INPUT: true; the input reads as it did. -/
def scanPiecesSpec : ChangeSpec := { name := "scanPieces", fn := fun _ => fun
  | [d1, d2] => { results := [.lit (.bool true)], args := [d1, d2] }
  | _ => none }
def scanPiecesRow : OpenClaim := { program := "ytlomdihpdaealaadoor", sum := "d1a72481b95776b87f41714567f7295fed0f63d695db78e638c2536d97436e69", func := "footbridge/footbridgelaw12.ScanPieces", spec := "scanPieces", unfollowed := true, recurses := true, named := ["footbridge/scan.endings"], apart := false, laid := [("footbridge/scan.endings", laid_footbridge_scan_endings)] }
def ScanPiecesSaid : Prop := scanPiecesRow.holds Tryd.pinned (OpenSpec.ofChange scanPiecesSpec)

/-- ITS FALSE NEIGHBOUR: 'it returns false'. Refute it at one input. -/
def scanPiecesWrong : ChangeSpec := { name := "scanPieces", fn := fun _ => fun
  | [d1, d2] => { results := [.lit (.bool false)], args := [d1, d2] }
  | _ => none }
def ScanPiecesWrongFalsely : Prop := scanPiecesRow.holds Tryd.pinned (OpenSpec.ofChange scanPiecesWrong)

/- THE SECOND FORM. 'bulk': how many values and letters a reading holds, each counted each time it is reached (what is shared counts as often as it is met; a slice's spare places count too). A statement '..UptoSaid' is the law's where the arguments, and the package variables that the reading takes, are together of bulk at most 1048576: NARROWER than '..Said'. Prove '..Said' where nothing that the law and all that it calls make is longer than what came in: it says more and counts as full. Else prove '..UptoSaid'. A law counts once. -/
mutual
def uptoBulk {H : Type} : DataW H → Nat
  | .lit (.string bytes) => bytes.length + 1
  | .lit _ => 1
  | .nil => 1
  | .ptr d => uptoBulk d + 1
  | .slice elems spare => uptoBulkAll elems + uptoBulkAll spare + 1
  | .agg parts => uptoBulkAll parts + 1
  | .iface _ d => uptoBulk d + 1
  | .map entries => uptoBulkEntries entries + 1
  | .held _ => 1
def uptoBulkAll {H : Type} : List (DataW H) → Nat
  | [] => 0
  | d :: r => uptoBulk d + uptoBulkAll r
def uptoBulkEntries {H : Type} : List (Lit × DataW H) → Nat
  | [] => 0
  | x :: r => uptoBulkEntry x + uptoBulkEntries r
def uptoBulkEntry {H : Type} : Lit × DataW H → Nat
  | (.string bytes, d) => bytes.length + uptoBulk d + 1
  | (_, d) => uptoBulk d + 1
 end
def uptoSmall : (H : Type) → List (DataW H) → Bool := fun _ ds => decide (uptoBulkAll ds ≤ 1048576)
def OpenSpec.upto (s : _root_.Go.ChangeSpec) : _root_.Go.OpenSpec := { _root_.Go.OpenSpec.ofChange s with cond := some uptoSmall }

/-- 'footbridgelaw12.ScanNexts', WHERE WHAT IT READS IS OF BULK AT MOST 1048576: true; the input reads as it did. -/
def scanNextsUptoRow : OpenClaim := { program := "ytlomdihpdaealaadoor", sum := "d1a72481b95776b87f41714567f7295fed0f63d695db78e638c2536d97436e69", func := "footbridge/footbridgelaw12.ScanNexts", spec := "scanNexts", unfollowed := true, recurses := true, named := ["footbridge/scan.endings"], apart := false, laid := [("footbridge/scan.endings", laid_footbridge_scan_endings)], narrowed := true }
def ScanNextsUptoSaid : Prop := scanNextsUptoRow.holds Tryd.pinned (OpenSpec.upto scanNextsSpec)

/-- 'footbridgelaw12.ScanUsual', WHERE WHAT IT READS IS OF BULK AT MOST 1048576: true; the input reads as it did. -/
def scanUsualUptoRow : OpenClaim := { program := "ytlomdihpdaealaadoor", sum := "d1a72481b95776b87f41714567f7295fed0f63d695db78e638c2536d97436e69", func := "footbridge/footbridgelaw12.ScanUsual", spec := "scanUsual", unfollowed := true, recurses := true, named := ["footbridge/scan.endings"], apart := false, laid := [("footbridge/scan.endings", laid_footbridge_scan_endings)], narrowed := true }
def ScanUsualUptoSaid : Prop := scanUsualUptoRow.holds Tryd.pinned (OpenSpec.upto scanUsualSpec)

/-- 'footbridgelaw12.ScanStays', WHERE WHAT IT READS IS OF BULK AT MOST 1048576: true; the input reads as it did. -/
def scanStaysUptoRow : OpenClaim := { program := "ytlomdihpdaealaadoor", sum := "d1a72481b95776b87f41714567f7295fed0f63d695db78e638c2536d97436e69", func := "footbridge/footbridgelaw12.ScanStays", spec := "scanStays", unfollowed := true, recurses := true, named := ["footbridge/scan.endings"], apart := false, laid := [("footbridge/scan.endings", laid_footbridge_scan_endings)], narrowed := true }
def ScanStaysUptoSaid : Prop := scanStaysUptoRow.holds Tryd.pinned (OpenSpec.upto scanStaysSpec)

/-- 'footbridgelaw12.ScanOpen', WHERE WHAT IT READS IS OF BULK AT MOST 1048576: true; the input reads as it did. -/
def scanOpenUptoRow : OpenClaim := { program := "ytlomdihpdaealaadoor", sum := "d1a72481b95776b87f41714567f7295fed0f63d695db78e638c2536d97436e69", func := "footbridge/footbridgelaw12.ScanOpen", spec := "scanOpen", unfollowed := true, recurses := true, named := ["footbridge/scan.endings"], apart := false, laid := [("footbridge/scan.endings", laid_footbridge_scan_endings)], narrowed := true }
def ScanOpenUptoSaid : Prop := scanOpenUptoRow.holds Tryd.pinned (OpenSpec.upto scanOpenSpec)

/-- 'footbridgelaw12.ScanFew', WHERE WHAT IT READS IS OF BULK AT MOST 1048576: true; the input reads as it did. -/
def scanFewUptoRow : OpenClaim := { program := "ytlomdihpdaealaadoor", sum := "d1a72481b95776b87f41714567f7295fed0f63d695db78e638c2536d97436e69", func := "footbridge/footbridgelaw12.ScanFew", spec := "scanFew", unfollowed := true, recurses := true, named := ["footbridge/scan.endings"], apart := false, laid := [("footbridge/scan.endings", laid_footbridge_scan_endings)], narrowed := true }
def ScanFewUptoSaid : Prop := scanFewUptoRow.holds Tryd.pinned (OpenSpec.upto scanFewSpec)

/-- 'footbridgelaw12.ScanPieces', WHERE WHAT IT READS IS OF BULK AT MOST 1048576: true; the input reads as it did. -/
def scanPiecesUptoRow : OpenClaim := { program := "ytlomdihpdaealaadoor", sum := "d1a72481b95776b87f41714567f7295fed0f63d695db78e638c2536d97436e69", func := "footbridge/footbridgelaw12.ScanPieces", spec := "scanPieces", unfollowed := true, recurses := true, named := ["footbridge/scan.endings"], apart := false, laid := [("footbridge/scan.endings", laid_footbridge_scan_endings)], narrowed := true }
def ScanPiecesUptoSaid : Prop := scanPiecesUptoRow.holds Tryd.pinned (OpenSpec.upto scanPiecesSpec)

end Rows
end Go.Proofs.YtlomdihpdaealaaDoor
