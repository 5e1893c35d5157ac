/-
  NARROWER THAN 'FOR EVERY INPUT', by the rows' own cells (each row's printed sentence says how): SplitPieces: laid · SplitStays: laid · SplitMarks: laid · SplitSums: laid · SplitFew: laid.
  DERIVED. THE GIVEN ROWS OF THIS SEAT. 5 by the template 'for every input the law returns true; each argument reads behind the call as it read before'; 0 by the template 'total and deterministic' (their statements: YtiheagkgpbkkfaaDoorTotals.lean).
  GIVEN WITH THE SEED: the statements are not yours to turn. If you find one false, say at which input.
  Laid BY PROGRAM, IN A SANDBOX (cutbox-rows.mjs): the forced cells as the released guide's own fill.sh prints them over the translation b73f0ba40dcad50f… (all of the seat's roots in one cut). By AI agents, Wed Nov 11 2026. No macro, syntax, notation, axiom, sorry.
-/
import Derived.Test.YtiheagkgpbkkfaaDoorChecked
import GoSem.Claim
import GoSem.ClaimJoined
import GoSem.ClaimMapViews
import Derived.JoinedTies
import Derived.KernelRfl
namespace Go.Proofs.YtiheagkgpbkkfaaDoor
/- THE CELL 'sum', in the pinned program and in every row, IS THE sha256 OF THE DUMP (.gsa) THAT YtiheagkgpbkkfaaDoorProg.lean LOADS. Nothing in Lean hashes anything: it is a label: what it is worth is what the hold of that sum in a sandbox is worth. -/
noncomputable def Tryd.pinned : Pinned := { name := "ytiheagkgpbkkfaadoor", sum := "b73f0ba40dcad50feb15536f525cff2b423ef0760ad10da895e9120660bbfed8", checked := Tryd.checked }
namespace Rows
def none {H : Type} : Left H := { results := [], args := [] }

/- WHAT THE LISTED PACKAGE-LEVEL VARIABLES READ AS WHEN THE CALL BEGINS. Each datum BY PROGRAM (the guide's laid-datum.mjs) off the statement by which the dump's own 'gosem.cut.vars' lays the variable. In a bare row this is a premise. The card (YtiheagkgpbkkfaaDoorCards.lean) ties it to the program's text. -/
def laid_footbridge_scan_endings {H : Type} : DataW H := .agg [.lit (.string [39, 115]), .lit (.string [39, 116]), .lit (.string [39, 109]), .lit (.string [39, 100]), .lit (.string [39, 114, 101]), .lit (.string [39, 118, 101]), .lit (.string [39, 108, 108])]

/-- 'footbridgelaw13.SplitPieces': WHATEVER THE INPUT: true; the input reads as it did. -/
def splitPiecesSpec : ChangeSpec := { name := "splitPieces", fn := fun _ => fun
  | [d1, d2, d3, d4] => { results := [.lit (.bool true)], args := [d1, d2, d3, d4] }
  | _ => none }
def splitPiecesRow : OpenClaim := { program := "ytiheagkgpbkkfaadoor", sum := "b73f0ba40dcad50feb15536f525cff2b423ef0760ad10da895e9120660bbfed8", func := "footbridge/footbridgelaw13.SplitPieces", spec := "splitPieces", unfollowed := true, recurses := true, named := ["footbridge/scan.endings"], apart := false, laid := [("footbridge/scan.endings", laid_footbridge_scan_endings)] }
def SplitPiecesSaid : Prop := splitPiecesRow.holds Tryd.pinned (OpenSpec.ofChange splitPiecesSpec)

/-- ITS FALSE NEIGHBOUR: 'it returns false'. Refute it at one input. -/
def splitPiecesWrong : ChangeSpec := { name := "splitPieces", fn := fun _ => fun
  | [d1, d2, d3, d4] => { results := [.lit (.bool false)], args := [d1, d2, d3, d4] }
  | _ => none }
def SplitPiecesWrongFalsely : Prop := splitPiecesRow.holds Tryd.pinned (OpenSpec.ofChange splitPiecesWrong)

/-- 'footbridgelaw13.SplitStays': WHATEVER THE INPUT: true; the input reads as it did. -/
def splitStaysSpec : ChangeSpec := { name := "splitStays", fn := fun _ => fun
  | [d1, d2, d3, d4, d5] => { results := [.lit (.bool true)], args := [d1, d2, d3, d4, d5] }
  | _ => none }
def splitStaysRow : OpenClaim := { program := "ytiheagkgpbkkfaadoor", sum := "b73f0ba40dcad50feb15536f525cff2b423ef0760ad10da895e9120660bbfed8", func := "footbridge/footbridgelaw13.SplitStays", spec := "splitStays", unfollowed := true, recurses := true, named := ["footbridge/scan.endings"], apart := false, laid := [("footbridge/scan.endings", laid_footbridge_scan_endings)] }
def SplitStaysSaid : Prop := splitStaysRow.holds Tryd.pinned (OpenSpec.ofChange splitStaysSpec)

/-- ITS FALSE NEIGHBOUR: 'it returns false'. Refute it at one input. -/
def splitStaysWrong : ChangeSpec := { name := "splitStays", fn := fun _ => fun
  | [d1, d2, d3, d4, d5] => { results := [.lit (.bool false)], args := [d1, d2, d3, d4, d5] }
  | _ => none }
def SplitStaysWrongFalsely : Prop := splitStaysRow.holds Tryd.pinned (OpenSpec.ofChange splitStaysWrong)

/-- 'footbridgelaw13.SplitMarks': WHATEVER THE INPUT: true; the input reads as it did. -/
def splitMarksSpec : ChangeSpec := { name := "splitMarks", fn := fun _ => fun
  | [d1, d2, d3, d4, d5, d6] => { results := [.lit (.bool true)], args := [d1, d2, d3, d4, d5, d6] }
  | _ => none }
def splitMarksRow : OpenClaim := { program := "ytiheagkgpbkkfaadoor", sum := "b73f0ba40dcad50feb15536f525cff2b423ef0760ad10da895e9120660bbfed8", func := "footbridge/footbridgelaw13.SplitMarks", spec := "splitMarks", unfollowed := true, recurses := true, named := ["footbridge/scan.endings"], apart := false, laid := [("footbridge/scan.endings", laid_footbridge_scan_endings)] }
def SplitMarksSaid : Prop := splitMarksRow.holds Tryd.pinned (OpenSpec.ofChange splitMarksSpec)

/-- ITS FALSE NEIGHBOUR: 'it returns false'. Refute it at one input. -/
def splitMarksWrong : ChangeSpec := { name := "splitMarks", fn := fun _ => fun
  | [d1, d2, d3, d4, d5, d6] => { results := [.lit (.bool false)], args := [d1, d2, d3, d4, d5, d6] }
  | _ => none }
def SplitMarksWrongFalsely : Prop := splitMarksRow.holds Tryd.pinned (OpenSpec.ofChange splitMarksWrong)

/-- 'footbridgelaw13.SplitSums': WHATEVER THE INPUT: true; the input reads as it did. -/
def splitSumsSpec : ChangeSpec := { name := "splitSums", fn := fun _ => fun
  | [d1, d2, d3] => { results := [.lit (.bool true)], args := [d1, d2, d3] }
  | _ => none }
def splitSumsRow : OpenClaim := { program := "ytiheagkgpbkkfaadoor", sum := "b73f0ba40dcad50feb15536f525cff2b423ef0760ad10da895e9120660bbfed8", func := "footbridge/footbridgelaw13.SplitSums", spec := "splitSums", unfollowed := true, recurses := true, named := ["footbridge/scan.endings"], apart := false, laid := [("footbridge/scan.endings", laid_footbridge_scan_endings)] }
def SplitSumsSaid : Prop := splitSumsRow.holds Tryd.pinned (OpenSpec.ofChange splitSumsSpec)

/-- ITS FALSE NEIGHBOUR: 'it returns false'. Refute it at one input. -/
def splitSumsWrong : ChangeSpec := { name := "splitSums", fn := fun _ => fun
  | [d1, d2, d3] => { results := [.lit (.bool false)], args := [d1, d2, d3] }
  | _ => none }
def SplitSumsWrongFalsely : Prop := splitSumsRow.holds Tryd.pinned (OpenSpec.ofChange splitSumsWrong)

/-- 'footbridgelaw13.SplitFew': WHATEVER THE INPUT: true; the input reads as it did. -/
def splitFewSpec : ChangeSpec := { name := "splitFew", fn := fun _ => fun
  | [d1, d2] => { results := [.lit (.bool true)], args := [d1, d2] }
  | _ => none }
def splitFewRow : OpenClaim := { program := "ytiheagkgpbkkfaadoor", sum := "b73f0ba40dcad50feb15536f525cff2b423ef0760ad10da895e9120660bbfed8", func := "footbridge/footbridgelaw13.SplitFew", spec := "splitFew", unfollowed := true, recurses := true, named := ["footbridge/scan.endings"], apart := false, laid := [("footbridge/scan.endings", laid_footbridge_scan_endings)] }
def SplitFewSaid : Prop := splitFewRow.holds Tryd.pinned (OpenSpec.ofChange splitFewSpec)

/-- ITS FALSE NEIGHBOUR: 'it returns false'. Refute it at one input. -/
def splitFewWrong : ChangeSpec := { name := "splitFew", fn := fun _ => fun
  | [d1, d2] => { results := [.lit (.bool false)], args := [d1, d2] }
  | _ => none }
def SplitFewWrongFalsely : Prop := splitFewRow.holds Tryd.pinned (OpenSpec.ofChange splitFewWrong)

/- THE SECOND FORM. 'bulk': how many values and letters a reading holds, each counted each time it is reached (what is shared counts as often as it is met; a slice's spare places count too). A statement '..UptoSaid' is the law's where the arguments, and the package variables that the reading takes, are together of bulk at most 1048576: NARROWER than '..Said'. Prove '..Said' where nothing that the law and all that it calls make is longer than what came in: it says more and counts as full. Else prove '..UptoSaid'. A law counts once. -/
mutual
def uptoBulk {H : Type} : DataW H → Nat
  | .lit (.string bytes) => bytes.length + 1
  | .lit _ => 1
  | .nil => 1
  | .ptr d => uptoBulk d + 1
  | .slice elems spare => uptoBulkAll elems + uptoBulkAll spare + 1
  | .agg parts => uptoBulkAll parts + 1
  | .iface _ d => uptoBulk d + 1
  | .map entries => uptoBulkEntries entries + 1
  | .held _ => 1
def uptoBulkAll {H : Type} : List (DataW H) → Nat
  | [] => 0
  | d :: r => uptoBulk d + uptoBulkAll r
def uptoBulkEntries {H : Type} : List (Lit × DataW H) → Nat
  | [] => 0
  | x :: r => uptoBulkEntry x + uptoBulkEntries r
def uptoBulkEntry {H : Type} : Lit × DataW H → Nat
  | (.string bytes, d) => bytes.length + uptoBulk d + 1
  | (_, d) => uptoBulk d + 1
 end
def uptoSmall : (H : Type) → List (DataW H) → Bool := fun _ ds => decide (uptoBulkAll ds ≤ 1048576)
def OpenSpec.upto (s : _root_.Go.ChangeSpec) : _root_.Go.OpenSpec := { _root_.Go.OpenSpec.ofChange s with cond := some uptoSmall }

/-- 'footbridgelaw13.SplitPieces', WHERE WHAT IT READS IS OF BULK AT MOST 1048576: true; the input reads as it did. -/
def splitPiecesUptoRow : OpenClaim := { program := "ytiheagkgpbkkfaadoor", sum := "b73f0ba40dcad50feb15536f525cff2b423ef0760ad10da895e9120660bbfed8", func := "footbridge/footbridgelaw13.SplitPieces", spec := "splitPieces", unfollowed := true, recurses := true, named := ["footbridge/scan.endings"], apart := false, laid := [("footbridge/scan.endings", laid_footbridge_scan_endings)], narrowed := true }
def SplitPiecesUptoSaid : Prop := splitPiecesUptoRow.holds Tryd.pinned (OpenSpec.upto splitPiecesSpec)

/-- 'footbridgelaw13.SplitStays', WHERE WHAT IT READS IS OF BULK AT MOST 1048576: true; the input reads as it did. -/
def splitStaysUptoRow : OpenClaim := { program := "ytiheagkgpbkkfaadoor", sum := "b73f0ba40dcad50feb15536f525cff2b423ef0760ad10da895e9120660bbfed8", func := "footbridge/footbridgelaw13.SplitStays", spec := "splitStays", unfollowed := true, recurses := true, named := ["footbridge/scan.endings"], apart := false, laid := [("footbridge/scan.endings", laid_footbridge_scan_endings)], narrowed := true }
def SplitStaysUptoSaid : Prop := splitStaysUptoRow.holds Tryd.pinned (OpenSpec.upto splitStaysSpec)

/-- 'footbridgelaw13.SplitMarks', WHERE WHAT IT READS IS OF BULK AT MOST 1048576: true; the input reads as it did. -/
def splitMarksUptoRow : OpenClaim := { program := "ytiheagkgpbkkfaadoor", sum := "b73f0ba40dcad50feb15536f525cff2b423ef0760ad10da895e9120660bbfed8", func := "footbridge/footbridgelaw13.SplitMarks", spec := "splitMarks", unfollowed := true, recurses := true, named := ["footbridge/scan.endings"], apart := false, laid := [("footbridge/scan.endings", laid_footbridge_scan_endings)], narrowed := true }
def SplitMarksUptoSaid : Prop := splitMarksUptoRow.holds Tryd.pinned (OpenSpec.upto splitMarksSpec)

/-- 'footbridgelaw13.SplitSums', WHERE WHAT IT READS IS OF BULK AT MOST 1048576: true; the input reads as it did. -/
def splitSumsUptoRow : OpenClaim := { program := "ytiheagkgpbkkfaadoor", sum := "b73f0ba40dcad50feb15536f525cff2b423ef0760ad10da895e9120660bbfed8", func := "footbridge/footbridgelaw13.SplitSums", spec := "splitSums", unfollowed := true, recurses := true, named := ["footbridge/scan.endings"], apart := false, laid := [("footbridge/scan.endings", laid_footbridge_scan_endings)], narrowed := true }
def SplitSumsUptoSaid : Prop := splitSumsUptoRow.holds Tryd.pinned (OpenSpec.upto splitSumsSpec)

/-- 'footbridgelaw13.SplitFew', WHERE WHAT IT READS IS OF BULK AT MOST 1048576: true; the input reads as it did. -/
def splitFewUptoRow : OpenClaim := { program := "ytiheagkgpbkkfaadoor", sum := "b73f0ba40dcad50feb15536f525cff2b423ef0760ad10da895e9120660bbfed8", func := "footbridge/footbridgelaw13.SplitFew", spec := "splitFew", unfollowed := true, recurses := true, named := ["footbridge/scan.endings"], apart := false, laid := [("footbridge/scan.endings", laid_footbridge_scan_endings)], narrowed := true }
def SplitFewUptoSaid : Prop := splitFewUptoRow.holds Tryd.pinned (OpenSpec.upto splitFewSpec)

end Rows
end Go.Proofs.YtiheagkgpbkkfaaDoor
