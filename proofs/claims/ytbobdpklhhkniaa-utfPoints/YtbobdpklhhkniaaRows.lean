/-
  No cell of these rows narrows 'for every input' (looked for: loops, veiled, ifaces, maps, wideKeys, modest, calm, conditions, laid).
  DERIVED. THE GIVEN ROWS OF THIS SEAT. 5 by the template 'for every input the law returns true; each argument reads behind the call as it read before'; 0 by the template 'total and deterministic' (their statements: YtbobdpklhhkniaaTotals.lean).
  GIVEN WITH THE SEED: the statements are not yours to turn. If you find one false, say at which input.
  Laid BY PROGRAM, IN A SANDBOX (cutbox-rows.mjs): the forced cells as the released guide's own fill.sh prints them over the translation 5a9c7d451564c778… (all of the seat's roots in one cut). By AI agents, Wed Nov 11 2026. No macro, syntax, notation, axiom, sorry.
-/
import Derived.Test.YtbobdpklhhkniaaChecked
import GoSem.Claim
import GoSem.ClaimJoined
import GoSem.ClaimMapViews
import Derived.JoinedTies
import Derived.KernelRfl
namespace Go.Proofs.Ytbobdpklhhkniaa
/- THE CELL 'sum', in the pinned program and in every row, IS THE sha256 OF THE DUMP (.gsa) THAT YtbobdpklhhkniaaProg.lean LOADS. Nothing in Lean hashes anything: it is a label: what it is worth is what the hold of that sum in a sandbox is worth. -/
noncomputable def Try.pinned : Pinned := { name := "ytbobdpklhhkniaa", sum := "5a9c7d451564c778f132623930d1004460b90625ca19546564d56a5d5c543dd0", checked := Try.checked }
namespace Rows
def none {H : Type} : Left H := { results := [], args := [] }

/-- 'footbridgelaw01.UtfDecodes': WHATEVER THE INPUT: true; the input reads as it did. -/
def utfDecodesSpec : ChangeSpec := { name := "utfDecodes", fn := fun _ => fun
  | [d1, d2] => { results := [.lit (.bool true)], args := [d1, d2] }
  | _ => none }
def utfDecodesRow : OpenClaim := { program := "ytbobdpklhhkniaa", sum := "5a9c7d451564c778f132623930d1004460b90625ca19546564d56a5d5c543dd0", func := "footbridge/footbridgelaw01.UtfDecodes", spec := "utfDecodes", apart := false }
def UtfDecodesSaid : Prop := utfDecodesRow.holds Try.pinned (OpenSpec.ofChange utfDecodesSpec)

/-- ITS FALSE NEIGHBOUR: 'it returns false'. Refute it at one input. -/
def utfDecodesWrong : ChangeSpec := { name := "utfDecodes", fn := fun _ => fun
  | [d1, d2] => { results := [.lit (.bool false)], args := [d1, d2] }
  | _ => none }
def UtfDecodesWrongFalsely : Prop := utfDecodesRow.holds Try.pinned (OpenSpec.ofChange utfDecodesWrong)

/-- 'footbridgelaw01.UtfEncodes': WHATEVER THE INPUT: true; the input reads as it did. -/
def utfEncodesSpec : ChangeSpec := { name := "utfEncodes", fn := fun _ => fun
  | [d1, d2, d3] => { results := [.lit (.bool true)], args := [d1, d2, d3] }
  | _ => none }
def utfEncodesRow : OpenClaim := { program := "ytbobdpklhhkniaa", sum := "5a9c7d451564c778f132623930d1004460b90625ca19546564d56a5d5c543dd0", func := "footbridge/footbridgelaw01.UtfEncodes", spec := "utfEncodes", apart := false }
def UtfEncodesSaid : Prop := utfEncodesRow.holds Try.pinned (OpenSpec.ofChange utfEncodesSpec)

/-- ITS FALSE NEIGHBOUR: 'it returns false'. Refute it at one input. -/
def utfEncodesWrong : ChangeSpec := { name := "utfEncodes", fn := fun _ => fun
  | [d1, d2, d3] => { results := [.lit (.bool false)], args := [d1, d2, d3] }
  | _ => none }
def UtfEncodesWrongFalsely : Prop := utfEncodesRow.holds Try.pinned (OpenSpec.ofChange utfEncodesWrong)

/-- 'footbridgelaw01.UtfPoints': WHATEVER THE INPUT: true; the input reads as it did. -/
def utfPointsSpec : ChangeSpec := { name := "utfPoints", fn := fun _ => fun
  | [d] => { results := [.lit (.bool true)], args := [d] }
  | _ => none }
def utfPointsRow : OpenClaim := { program := "ytbobdpklhhkniaa", sum := "5a9c7d451564c778f132623930d1004460b90625ca19546564d56a5d5c543dd0", func := "footbridge/footbridgelaw01.UtfPoints", spec := "utfPoints", apart := false }
def UtfPointsSaid : Prop := utfPointsRow.holds Try.pinned (OpenSpec.ofChange utfPointsSpec)

/-- ITS FALSE NEIGHBOUR: 'it returns false'. Refute it at one input. -/
def utfPointsWrong : ChangeSpec := { name := "utfPoints", fn := fun _ => fun
  | [d] => { results := [.lit (.bool false)], args := [d] }
  | _ => none }
def UtfPointsWrongFalsely : Prop := utfPointsRow.holds Try.pinned (OpenSpec.ofChange utfPointsWrong)

/-- 'footbridgelaw01.UtfMore': WHATEVER THE INPUT: true; the input reads as it did. -/
def utfMoreSpec : ChangeSpec := { name := "utfMore", fn := fun _ => fun
  | [d1, d2] => { results := [.lit (.bool true)], args := [d1, d2] }
  | _ => none }
def utfMoreRow : OpenClaim := { program := "ytbobdpklhhkniaa", sum := "5a9c7d451564c778f132623930d1004460b90625ca19546564d56a5d5c543dd0", func := "footbridge/footbridgelaw01.UtfMore", spec := "utfMore", apart := false }
def UtfMoreSaid : Prop := utfMoreRow.holds Try.pinned (OpenSpec.ofChange utfMoreSpec)

/-- ITS FALSE NEIGHBOUR: 'it returns false'. Refute it at one input. -/
def utfMoreWrong : ChangeSpec := { name := "utfMore", fn := fun _ => fun
  | [d1, d2] => { results := [.lit (.bool false)], args := [d1, d2] }
  | _ => none }
def UtfMoreWrongFalsely : Prop := utfMoreRow.holds Try.pinned (OpenSpec.ofChange utfMoreWrong)

/-- 'footbridgelaw01.UtfSame': WHATEVER THE INPUT: true; the input reads as it did. -/
def utfSameSpec : ChangeSpec := { name := "utfSame", fn := fun _ => fun
  | [d1, d2] => { results := [.lit (.bool true)], args := [d1, d2] }
  | _ => none }
def utfSameRow : OpenClaim := { program := "ytbobdpklhhkniaa", sum := "5a9c7d451564c778f132623930d1004460b90625ca19546564d56a5d5c543dd0", func := "footbridge/footbridgelaw01.UtfSame", spec := "utfSame", apart := false }
def UtfSameSaid : Prop := utfSameRow.holds Try.pinned (OpenSpec.ofChange utfSameSpec)

/-- ITS FALSE NEIGHBOUR: 'it returns false'. Refute it at one input. -/
def utfSameWrong : ChangeSpec := { name := "utfSame", fn := fun _ => fun
  | [d1, d2] => { results := [.lit (.bool false)], args := [d1, d2] }
  | _ => none }
def UtfSameWrongFalsely : Prop := utfSameRow.holds Try.pinned (OpenSpec.ofChange utfSameWrong)

/- THE SECOND FORM. 'bulk': how many values and letters a reading holds, each counted each time it is reached (what is shared counts as often as it is met; a slice's spare places count too). A statement '..UptoSaid' is the law's where the arguments, and the package variables that the reading takes, are together of bulk at most 1048576: NARROWER than '..Said'. Prove '..Said' where nothing that the law and all that it calls make is longer than what came in: it says more and counts as full. Else prove '..UptoSaid'. A law counts once. -/
mutual
def uptoBulk {H : Type} : DataW H → Nat
  | .lit (.string bytes) => bytes.length + 1
  | .lit _ => 1
  | .nil => 1
  | .ptr d => uptoBulk d + 1
  | .slice elems spare => uptoBulkAll elems + uptoBulkAll spare + 1
  | .agg parts => uptoBulkAll parts + 1
  | .iface _ d => uptoBulk d + 1
  | .map entries => uptoBulkEntries entries + 1
  | .held _ => 1
def uptoBulkAll {H : Type} : List (DataW H) → Nat
  | [] => 0
  | d :: r => uptoBulk d + uptoBulkAll r
def uptoBulkEntries {H : Type} : List (Lit × DataW H) → Nat
  | [] => 0
  | x :: r => uptoBulkEntry x + uptoBulkEntries r
def uptoBulkEntry {H : Type} : Lit × DataW H → Nat
  | (.string bytes, d) => bytes.length + uptoBulk d + 1
  | (_, d) => uptoBulk d + 1
 end
def uptoSmall : (H : Type) → List (DataW H) → Bool := fun _ ds => decide (uptoBulkAll ds ≤ 1048576)
def OpenSpec.upto (s : _root_.Go.ChangeSpec) : _root_.Go.OpenSpec := { _root_.Go.OpenSpec.ofChange s with cond := some uptoSmall }

/-- 'footbridgelaw01.UtfDecodes', WHERE WHAT IT READS IS OF BULK AT MOST 1048576: true; the input reads as it did. -/
def utfDecodesUptoRow : OpenClaim := { program := "ytbobdpklhhkniaa", sum := "5a9c7d451564c778f132623930d1004460b90625ca19546564d56a5d5c543dd0", func := "footbridge/footbridgelaw01.UtfDecodes", spec := "utfDecodes", apart := false, narrowed := true }
def UtfDecodesUptoSaid : Prop := utfDecodesUptoRow.holds Try.pinned (OpenSpec.upto utfDecodesSpec)

/-- 'footbridgelaw01.UtfEncodes', WHERE WHAT IT READS IS OF BULK AT MOST 1048576: true; the input reads as it did. -/
def utfEncodesUptoRow : OpenClaim := { program := "ytbobdpklhhkniaa", sum := "5a9c7d451564c778f132623930d1004460b90625ca19546564d56a5d5c543dd0", func := "footbridge/footbridgelaw01.UtfEncodes", spec := "utfEncodes", apart := false, narrowed := true }
def UtfEncodesUptoSaid : Prop := utfEncodesUptoRow.holds Try.pinned (OpenSpec.upto utfEncodesSpec)

/-- 'footbridgelaw01.UtfPoints', WHERE WHAT IT READS IS OF BULK AT MOST 1048576: true; the input reads as it did. -/
def utfPointsUptoRow : OpenClaim := { program := "ytbobdpklhhkniaa", sum := "5a9c7d451564c778f132623930d1004460b90625ca19546564d56a5d5c543dd0", func := "footbridge/footbridgelaw01.UtfPoints", spec := "utfPoints", apart := false, narrowed := true }
def UtfPointsUptoSaid : Prop := utfPointsUptoRow.holds Try.pinned (OpenSpec.upto utfPointsSpec)

/-- 'footbridgelaw01.UtfMore', WHERE WHAT IT READS IS OF BULK AT MOST 1048576: true; the input reads as it did. -/
def utfMoreUptoRow : OpenClaim := { program := "ytbobdpklhhkniaa", sum := "5a9c7d451564c778f132623930d1004460b90625ca19546564d56a5d5c543dd0", func := "footbridge/footbridgelaw01.UtfMore", spec := "utfMore", apart := false, narrowed := true }
def UtfMoreUptoSaid : Prop := utfMoreUptoRow.holds Try.pinned (OpenSpec.upto utfMoreSpec)

/-- 'footbridgelaw01.UtfSame', WHERE WHAT IT READS IS OF BULK AT MOST 1048576: true; the input reads as it did. -/
def utfSameUptoRow : OpenClaim := { program := "ytbobdpklhhkniaa", sum := "5a9c7d451564c778f132623930d1004460b90625ca19546564d56a5d5c543dd0", func := "footbridge/footbridgelaw01.UtfSame", spec := "utfSame", apart := false, narrowed := true }
def UtfSameUptoSaid : Prop := utfSameUptoRow.holds Try.pinned (OpenSpec.upto utfSameSpec)

end Rows
end Go.Proofs.Ytbobdpklhhkniaa
