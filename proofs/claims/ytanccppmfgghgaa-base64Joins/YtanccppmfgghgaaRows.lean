/-
  No cell of these rows narrows 'for every input' (looked for: loops, veiled, ifaces, maps, wideKeys, modest, calm, conditions, laid).
  DERIVED. THE GIVEN ROWS OF THIS SEAT. 5 by the template 'for every input the law returns true; each argument reads behind the call as it read before'; 0 by the template 'total and deterministic' (their statements: YtanccppmfgghgaaTotals.lean).
  GIVEN WITH THE SEED: the statements are not yours to turn. If you find one false, say at which input.
  Laid BY PROGRAM, IN A SANDBOX (cutbox-rows.mjs): the forced cells as the released guide's own fill.sh prints them over the translation 434c1091dbffb3ec… (all of the seat's roots in one cut). By AI agents, Wed Nov 11 2026. No macro, syntax, notation, axiom, sorry.
-/
import Derived.Test.YtanccppmfgghgaaChecked
import GoSem.Claim
import GoSem.ClaimJoined
import GoSem.ClaimMapViews
import Derived.JoinedTies
import Derived.KernelRfl
namespace Go.Proofs.Ytanccppmfgghgaa
/- THE CELL 'sum', in the pinned program and in every row, IS THE sha256 OF THE DUMP (.gsa) THAT YtanccppmfgghgaaProg.lean LOADS. Nothing in Lean hashes anything: it is a label: what it is worth is what the hold of that sum in a sandbox is worth. -/
noncomputable def Try.pinned : Pinned := { name := "ytanccppmfgghgaa", sum := "434c1091dbffb3ec52ab02ab7076c2de1c6a27cd8eab79cdd2aa114a5cbd23cf", checked := Try.checked }
namespace Rows
def none {H : Type} : Left H := { results := [], args := [] }

/-- 'footbridgelaw03.Base64Texts': WHATEVER THE INPUT: true; the input reads as it did. -/
def base64TextsSpec : ChangeSpec := { name := "base64Texts", fn := fun _ => fun
  | [d] => { results := [.lit (.bool true)], args := [d] }
  | _ => none }
def base64TextsRow : OpenClaim := { program := "ytanccppmfgghgaa", sum := "434c1091dbffb3ec52ab02ab7076c2de1c6a27cd8eab79cdd2aa114a5cbd23cf", func := "footbridge/footbridgelaw03.Base64Texts", spec := "base64Texts", inPlace := ["internal/bytealg.IndexByteString"], apart := false }
def Base64TextsSaid : Prop := base64TextsRow.holds Try.pinned (OpenSpec.ofChange base64TextsSpec)

/-- ITS FALSE NEIGHBOUR: 'it returns false'. Refute it at one input. -/
def base64TextsWrong : ChangeSpec := { name := "base64Texts", fn := fun _ => fun
  | [d] => { results := [.lit (.bool false)], args := [d] }
  | _ => none }
def Base64TextsWrongFalsely : Prop := base64TextsRow.holds Try.pinned (OpenSpec.ofChange base64TextsWrong)

/-- 'footbridgelaw03.Base64Reads': WHATEVER THE INPUT: true; the input reads as it did. -/
def base64ReadsSpec : ChangeSpec := { name := "base64Reads", fn := fun _ => fun
  | [d] => { results := [.lit (.bool true)], args := [d] }
  | _ => none }
def base64ReadsRow : OpenClaim := { program := "ytanccppmfgghgaa", sum := "434c1091dbffb3ec52ab02ab7076c2de1c6a27cd8eab79cdd2aa114a5cbd23cf", func := "footbridge/footbridgelaw03.Base64Reads", spec := "base64Reads", inPlace := ["internal/bytealg.IndexByteString"], apart := false }
def Base64ReadsSaid : Prop := base64ReadsRow.holds Try.pinned (OpenSpec.ofChange base64ReadsSpec)

/-- ITS FALSE NEIGHBOUR: 'it returns false'. Refute it at one input. -/
def base64ReadsWrong : ChangeSpec := { name := "base64Reads", fn := fun _ => fun
  | [d] => { results := [.lit (.bool false)], args := [d] }
  | _ => none }
def Base64ReadsWrongFalsely : Prop := base64ReadsRow.holds Try.pinned (OpenSpec.ofChange base64ReadsWrong)

/-- 'footbridgelaw03.Base64One': WHATEVER THE INPUT: true; the input reads as it did. -/
def base64OneSpec : ChangeSpec := { name := "base64One", fn := fun _ => fun
  | [d] => { results := [.lit (.bool true)], args := [d] }
  | _ => none }
def base64OneRow : OpenClaim := { program := "ytanccppmfgghgaa", sum := "434c1091dbffb3ec52ab02ab7076c2de1c6a27cd8eab79cdd2aa114a5cbd23cf", func := "footbridge/footbridgelaw03.Base64One", spec := "base64One", inPlace := ["internal/bytealg.IndexByteString"], apart := false }
def Base64OneSaid : Prop := base64OneRow.holds Try.pinned (OpenSpec.ofChange base64OneSpec)

/-- ITS FALSE NEIGHBOUR: 'it returns false'. Refute it at one input. -/
def base64OneWrong : ChangeSpec := { name := "base64One", fn := fun _ => fun
  | [d] => { results := [.lit (.bool false)], args := [d] }
  | _ => none }
def Base64OneWrongFalsely : Prop := base64OneRow.holds Try.pinned (OpenSpec.ofChange base64OneWrong)

/-- 'footbridgelaw03.Base64Joins': WHATEVER THE INPUT: true; the input reads as it did. -/
def base64JoinsSpec : ChangeSpec := { name := "base64Joins", fn := fun _ => fun
  | [d1, d2] => { results := [.lit (.bool true)], args := [d1, d2] }
  | _ => none }
def base64JoinsRow : OpenClaim := { program := "ytanccppmfgghgaa", sum := "434c1091dbffb3ec52ab02ab7076c2de1c6a27cd8eab79cdd2aa114a5cbd23cf", func := "footbridge/footbridgelaw03.Base64Joins", spec := "base64Joins", inPlace := ["internal/bytealg.IndexByteString"], apart := false }
def Base64JoinsSaid : Prop := base64JoinsRow.holds Try.pinned (OpenSpec.ofChange base64JoinsSpec)

/-- ITS FALSE NEIGHBOUR: 'it returns false'. Refute it at one input. -/
def base64JoinsWrong : ChangeSpec := { name := "base64Joins", fn := fun _ => fun
  | [d1, d2] => { results := [.lit (.bool false)], args := [d1, d2] }
  | _ => none }
def Base64JoinsWrongFalsely : Prop := base64JoinsRow.holds Try.pinned (OpenSpec.ofChange base64JoinsWrong)

/-- 'footbridgelaw03.Base64Place': WHATEVER THE INPUT: true; the input reads as it did. -/
def base64PlaceSpec : ChangeSpec := { name := "base64Place", fn := fun _ => fun
  | [d1, d2] => { results := [.lit (.bool true)], args := [d1, d2] }
  | _ => none }
def base64PlaceRow : OpenClaim := { program := "ytanccppmfgghgaa", sum := "434c1091dbffb3ec52ab02ab7076c2de1c6a27cd8eab79cdd2aa114a5cbd23cf", func := "footbridge/footbridgelaw03.Base64Place", spec := "base64Place", inPlace := ["internal/bytealg.IndexByteString"], apart := false }
def Base64PlaceSaid : Prop := base64PlaceRow.holds Try.pinned (OpenSpec.ofChange base64PlaceSpec)

/-- ITS FALSE NEIGHBOUR: 'it returns false'. Refute it at one input. -/
def base64PlaceWrong : ChangeSpec := { name := "base64Place", fn := fun _ => fun
  | [d1, d2] => { results := [.lit (.bool false)], args := [d1, d2] }
  | _ => none }
def Base64PlaceWrongFalsely : Prop := base64PlaceRow.holds Try.pinned (OpenSpec.ofChange base64PlaceWrong)

/- THE SECOND FORM. 'bulk': how many values and letters a reading holds, each counted each time it is reached (what is shared counts as often as it is met; a slice's spare places count too). A statement '..UptoSaid' is the law's where the arguments, and the package variables that the reading takes, are together of bulk at most 1048576: NARROWER than '..Said'. Prove '..Said' where nothing that the law and all that it calls make is longer than what came in: it says more and counts as full. Else prove '..UptoSaid'. A law counts once. -/
mutual
def uptoBulk {H : Type} : DataW H → Nat
  | .lit (.string bytes) => bytes.length + 1
  | .lit _ => 1
  | .nil => 1
  | .ptr d => uptoBulk d + 1
  | .slice elems spare => uptoBulkAll elems + uptoBulkAll spare + 1
  | .agg parts => uptoBulkAll parts + 1
  | .iface _ d => uptoBulk d + 1
  | .map entries => uptoBulkEntries entries + 1
  | .held _ => 1
def uptoBulkAll {H : Type} : List (DataW H) → Nat
  | [] => 0
  | d :: r => uptoBulk d + uptoBulkAll r
def uptoBulkEntries {H : Type} : List (Lit × DataW H) → Nat
  | [] => 0
  | x :: r => uptoBulkEntry x + uptoBulkEntries r
def uptoBulkEntry {H : Type} : Lit × DataW H → Nat
  | (.string bytes, d) => bytes.length + uptoBulk d + 1
  | (_, d) => uptoBulk d + 1
 end
def uptoSmall : (H : Type) → List (DataW H) → Bool := fun _ ds => decide (uptoBulkAll ds ≤ 1048576)
def OpenSpec.upto (s : _root_.Go.ChangeSpec) : _root_.Go.OpenSpec := { _root_.Go.OpenSpec.ofChange s with cond := some uptoSmall }

/-- 'footbridgelaw03.Base64Texts', WHERE WHAT IT READS IS OF BULK AT MOST 1048576: true; the input reads as it did. -/
def base64TextsUptoRow : OpenClaim := { program := "ytanccppmfgghgaa", sum := "434c1091dbffb3ec52ab02ab7076c2de1c6a27cd8eab79cdd2aa114a5cbd23cf", func := "footbridge/footbridgelaw03.Base64Texts", spec := "base64Texts", inPlace := ["internal/bytealg.IndexByteString"], apart := false, narrowed := true }
def Base64TextsUptoSaid : Prop := base64TextsUptoRow.holds Try.pinned (OpenSpec.upto base64TextsSpec)

/-- 'footbridgelaw03.Base64Reads', WHERE WHAT IT READS IS OF BULK AT MOST 1048576: true; the input reads as it did. -/
def base64ReadsUptoRow : OpenClaim := { program := "ytanccppmfgghgaa", sum := "434c1091dbffb3ec52ab02ab7076c2de1c6a27cd8eab79cdd2aa114a5cbd23cf", func := "footbridge/footbridgelaw03.Base64Reads", spec := "base64Reads", inPlace := ["internal/bytealg.IndexByteString"], apart := false, narrowed := true }
def Base64ReadsUptoSaid : Prop := base64ReadsUptoRow.holds Try.pinned (OpenSpec.upto base64ReadsSpec)

/-- 'footbridgelaw03.Base64One', WHERE WHAT IT READS IS OF BULK AT MOST 1048576: true; the input reads as it did. -/
def base64OneUptoRow : OpenClaim := { program := "ytanccppmfgghgaa", sum := "434c1091dbffb3ec52ab02ab7076c2de1c6a27cd8eab79cdd2aa114a5cbd23cf", func := "footbridge/footbridgelaw03.Base64One", spec := "base64One", inPlace := ["internal/bytealg.IndexByteString"], apart := false, narrowed := true }
def Base64OneUptoSaid : Prop := base64OneUptoRow.holds Try.pinned (OpenSpec.upto base64OneSpec)

/-- 'footbridgelaw03.Base64Joins', WHERE WHAT IT READS IS OF BULK AT MOST 1048576: true; the input reads as it did. -/
def base64JoinsUptoRow : OpenClaim := { program := "ytanccppmfgghgaa", sum := "434c1091dbffb3ec52ab02ab7076c2de1c6a27cd8eab79cdd2aa114a5cbd23cf", func := "footbridge/footbridgelaw03.Base64Joins", spec := "base64Joins", inPlace := ["internal/bytealg.IndexByteString"], apart := false, narrowed := true }
def Base64JoinsUptoSaid : Prop := base64JoinsUptoRow.holds Try.pinned (OpenSpec.upto base64JoinsSpec)

/-- 'footbridgelaw03.Base64Place', WHERE WHAT IT READS IS OF BULK AT MOST 1048576: true; the input reads as it did. -/
def base64PlaceUptoRow : OpenClaim := { program := "ytanccppmfgghgaa", sum := "434c1091dbffb3ec52ab02ab7076c2de1c6a27cd8eab79cdd2aa114a5cbd23cf", func := "footbridge/footbridgelaw03.Base64Place", spec := "base64Place", inPlace := ["internal/bytealg.IndexByteString"], apart := false, narrowed := true }
def Base64PlaceUptoSaid : Prop := base64PlaceUptoRow.holds Try.pinned (OpenSpec.upto base64PlaceSpec)

end Rows
end Go.Proofs.Ytanccppmfgghgaa
