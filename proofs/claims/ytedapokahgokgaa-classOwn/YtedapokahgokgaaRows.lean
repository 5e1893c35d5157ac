/-
  No cell of these rows narrows 'for every input' (looked for: loops, veiled, ifaces, maps, wideKeys, modest, calm, conditions, laid).
  DERIVED. THE GIVEN ROWS OF THIS SEAT. 4 by the template 'for every input the law returns true; each argument reads behind the call as it read before'; 0 by the template 'total and deterministic' (their statements: YtedapokahgokgaaTotals.lean).
  GIVEN WITH THE SEED: the statements are not yours to turn. If you find one false, say at which input.
  Laid BY PROGRAM, IN A SANDBOX (cutbox-rows.mjs): the forced cells as the released guide's own fill.sh prints them over the translation 357db316157e1fe6… (all of the seat's roots in one cut). By AI agents, Wed Nov 11 2026. No macro, syntax, notation, axiom, sorry.
-/
import Derived.Test.YtedapokahgokgaaChecked
import GoSem.Claim
import GoSem.ClaimJoined
import GoSem.ClaimMapViews
import Derived.JoinedTies
import Derived.KernelRfl
namespace Go.Proofs.Ytedapokahgokgaa
/- THE CELL 'sum', in the pinned program and in every row, IS THE sha256 OF THE DUMP (.gsa) THAT YtedapokahgokgaaProg.lean LOADS. Nothing in Lean hashes anything: it is a label: what it is worth is what the hold of that sum in a sandbox is worth. -/
noncomputable def Try.pinned : Pinned := { name := "ytedapokahgokgaa", sum := "357db316157e1fe6138ad16f3d1bc4e639a461bb4837506b8a513aada8d5c2e4", checked := Try.checked }
namespace Rows
def none {H : Type} : Left H := { results := [], args := [] }

/-- 'footbridgelaw02.ClassOf': WHATEVER THE INPUT: true; the input reads as it did. -/
def classOfSpec : ChangeSpec := { name := "classOf", fn := fun _ => fun
  | [d1, d2] => { results := [.lit (.bool true)], args := [d1, d2] }
  | _ => none }
def classOfRow : OpenClaim := { program := "ytedapokahgokgaa", sum := "357db316157e1fe6138ad16f3d1bc4e639a461bb4837506b8a513aada8d5c2e4", func := "footbridge/footbridgelaw02.ClassOf", spec := "classOf", apart := false }
def ClassOfSaid : Prop := classOfRow.holds Try.pinned (OpenSpec.ofChange classOfSpec)

/-- ITS FALSE NEIGHBOUR: 'it returns false'. Refute it at one input. -/
def classOfWrong : ChangeSpec := { name := "classOf", fn := fun _ => fun
  | [d1, d2] => { results := [.lit (.bool false)], args := [d1, d2] }
  | _ => none }
def ClassOfWrongFalsely : Prop := classOfRow.holds Try.pinned (OpenSpec.ofChange classOfWrong)

/-- 'footbridgelaw02.ClassUsual': WHATEVER THE INPUT: true; the input reads as it did. -/
def classUsualSpec : ChangeSpec := { name := "classUsual", fn := fun _ => fun
  | [d1, d2] => { results := [.lit (.bool true)], args := [d1, d2] }
  | _ => none }
def classUsualRow : OpenClaim := { program := "ytedapokahgokgaa", sum := "357db316157e1fe6138ad16f3d1bc4e639a461bb4837506b8a513aada8d5c2e4", func := "footbridge/footbridgelaw02.ClassUsual", spec := "classUsual", apart := false }
def ClassUsualSaid : Prop := classUsualRow.holds Try.pinned (OpenSpec.ofChange classUsualSpec)

/-- ITS FALSE NEIGHBOUR: 'it returns false'. Refute it at one input. -/
def classUsualWrong : ChangeSpec := { name := "classUsual", fn := fun _ => fun
  | [d1, d2] => { results := [.lit (.bool false)], args := [d1, d2] }
  | _ => none }
def ClassUsualWrongFalsely : Prop := classUsualRow.holds Try.pinned (OpenSpec.ofChange classUsualWrong)

/-- 'footbridgelaw02.ClassMore': WHATEVER THE INPUT: true; the input reads as it did. -/
def classMoreSpec : ChangeSpec := { name := "classMore", fn := fun _ => fun
  | [d1, d2, d3] => { results := [.lit (.bool true)], args := [d1, d2, d3] }
  | _ => none }
def classMoreRow : OpenClaim := { program := "ytedapokahgokgaa", sum := "357db316157e1fe6138ad16f3d1bc4e639a461bb4837506b8a513aada8d5c2e4", func := "footbridge/footbridgelaw02.ClassMore", spec := "classMore", apart := false }
def ClassMoreSaid : Prop := classMoreRow.holds Try.pinned (OpenSpec.ofChange classMoreSpec)

/-- ITS FALSE NEIGHBOUR: 'it returns false'. Refute it at one input. -/
def classMoreWrong : ChangeSpec := { name := "classMore", fn := fun _ => fun
  | [d1, d2, d3] => { results := [.lit (.bool false)], args := [d1, d2, d3] }
  | _ => none }
def ClassMoreWrongFalsely : Prop := classMoreRow.holds Try.pinned (OpenSpec.ofChange classMoreWrong)

/-- 'footbridgelaw02.ClassOwn': WHATEVER THE INPUT: true; the input reads as it did. -/
def classOwnSpec : ChangeSpec := { name := "classOwn", fn := fun _ => fun
  | [d1, d2, d3] => { results := [.lit (.bool true)], args := [d1, d2, d3] }
  | _ => none }
def classOwnRow : OpenClaim := { program := "ytedapokahgokgaa", sum := "357db316157e1fe6138ad16f3d1bc4e639a461bb4837506b8a513aada8d5c2e4", func := "footbridge/footbridgelaw02.ClassOwn", spec := "classOwn", apart := false }
def ClassOwnSaid : Prop := classOwnRow.holds Try.pinned (OpenSpec.ofChange classOwnSpec)

/-- ITS FALSE NEIGHBOUR: 'it returns false'. Refute it at one input. -/
def classOwnWrong : ChangeSpec := { name := "classOwn", fn := fun _ => fun
  | [d1, d2, d3] => { results := [.lit (.bool false)], args := [d1, d2, d3] }
  | _ => none }
def ClassOwnWrongFalsely : Prop := classOwnRow.holds Try.pinned (OpenSpec.ofChange classOwnWrong)

/- THE SECOND FORM. 'bulk': how many values and letters a reading holds, each counted each time it is reached (what is shared counts as often as it is met; a slice's spare places count too). A statement '..UptoSaid' is the law's where the arguments, and the package variables that the reading takes, are together of bulk at most 1048576: NARROWER than '..Said'. Prove '..Said' where nothing that the law and all that it calls make is longer than what came in: it says more and counts as full. Else prove '..UptoSaid'. A law counts once. -/
mutual
def uptoBulk {H : Type} : DataW H → Nat
  | .lit (.string bytes) => bytes.length + 1
  | .lit _ => 1
  | .nil => 1
  | .ptr d => uptoBulk d + 1
  | .slice elems spare => uptoBulkAll elems + uptoBulkAll spare + 1
  | .agg parts => uptoBulkAll parts + 1
  | .iface _ d => uptoBulk d + 1
  | .map entries => uptoBulkEntries entries + 1
  | .held _ => 1
def uptoBulkAll {H : Type} : List (DataW H) → Nat
  | [] => 0
  | d :: r => uptoBulk d + uptoBulkAll r
def uptoBulkEntries {H : Type} : List (Lit × DataW H) → Nat
  | [] => 0
  | x :: r => uptoBulkEntry x + uptoBulkEntries r
def uptoBulkEntry {H : Type} : Lit × DataW H → Nat
  | (.string bytes, d) => bytes.length + uptoBulk d + 1
  | (_, d) => uptoBulk d + 1
 end
def uptoSmall : (H : Type) → List (DataW H) → Bool := fun _ ds => decide (uptoBulkAll ds ≤ 1048576)
def OpenSpec.upto (s : _root_.Go.ChangeSpec) : _root_.Go.OpenSpec := { _root_.Go.OpenSpec.ofChange s with cond := some uptoSmall }

/-- 'footbridgelaw02.ClassOf', WHERE WHAT IT READS IS OF BULK AT MOST 1048576: true; the input reads as it did. -/
def classOfUptoRow : OpenClaim := { program := "ytedapokahgokgaa", sum := "357db316157e1fe6138ad16f3d1bc4e639a461bb4837506b8a513aada8d5c2e4", func := "footbridge/footbridgelaw02.ClassOf", spec := "classOf", apart := false, narrowed := true }
def ClassOfUptoSaid : Prop := classOfUptoRow.holds Try.pinned (OpenSpec.upto classOfSpec)

/-- 'footbridgelaw02.ClassUsual', WHERE WHAT IT READS IS OF BULK AT MOST 1048576: true; the input reads as it did. -/
def classUsualUptoRow : OpenClaim := { program := "ytedapokahgokgaa", sum := "357db316157e1fe6138ad16f3d1bc4e639a461bb4837506b8a513aada8d5c2e4", func := "footbridge/footbridgelaw02.ClassUsual", spec := "classUsual", apart := false, narrowed := true }
def ClassUsualUptoSaid : Prop := classUsualUptoRow.holds Try.pinned (OpenSpec.upto classUsualSpec)

/-- 'footbridgelaw02.ClassMore', WHERE WHAT IT READS IS OF BULK AT MOST 1048576: true; the input reads as it did. -/
def classMoreUptoRow : OpenClaim := { program := "ytedapokahgokgaa", sum := "357db316157e1fe6138ad16f3d1bc4e639a461bb4837506b8a513aada8d5c2e4", func := "footbridge/footbridgelaw02.ClassMore", spec := "classMore", apart := false, narrowed := true }
def ClassMoreUptoSaid : Prop := classMoreUptoRow.holds Try.pinned (OpenSpec.upto classMoreSpec)

/-- 'footbridgelaw02.ClassOwn', WHERE WHAT IT READS IS OF BULK AT MOST 1048576: true; the input reads as it did. -/
def classOwnUptoRow : OpenClaim := { program := "ytedapokahgokgaa", sum := "357db316157e1fe6138ad16f3d1bc4e639a461bb4837506b8a513aada8d5c2e4", func := "footbridge/footbridgelaw02.ClassOwn", spec := "classOwn", apart := false, narrowed := true }
def ClassOwnUptoSaid : Prop := classOwnUptoRow.holds Try.pinned (OpenSpec.upto classOwnSpec)

end Rows
end Go.Proofs.Ytedapokahgokgaa
