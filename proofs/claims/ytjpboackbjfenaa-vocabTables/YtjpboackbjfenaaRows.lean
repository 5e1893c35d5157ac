/-
  No cell of these rows narrows 'for every input' (looked for: loops, veiled, ifaces, maps, wideKeys, modest, calm, conditions, laid).
  DERIVED. THE GIVEN ROWS OF THIS SEAT. 6 by the template 'for every input the law returns true; each argument reads behind the call as it read before'; 0 by the template 'total and deterministic' (their statements: YtjpboackbjfenaaTotals.lean).
  GIVEN WITH THE SEED: the statements are not yours to turn. If you find one false, say at which input.
  Laid BY PROGRAM, IN A SANDBOX (cutbox-rows.mjs): the forced cells as the released guide's own fill.sh prints them over the translation 2f2effcad86fcaeb… (all of the seat's roots in one cut). By AI agents, Wed Nov 11 2026. No macro, syntax, notation, axiom, sorry.
-/
import Derived.Test.YtjpboackbjfenaaChecked
import GoSem.Claim
import GoSem.ClaimJoined
import GoSem.ClaimMapViews
import Derived.JoinedTies
import Derived.KernelRfl
namespace Go.Proofs.Ytjpboackbjfenaa
/- THE CELL 'sum', in the pinned program and in every row, IS THE sha256 OF THE DUMP (.gsa) THAT YtjpboackbjfenaaProg.lean LOADS. Nothing in Lean hashes anything: it is a label: what it is worth is what the hold of that sum in a sandbox is worth. -/
noncomputable def Try.pinned : Pinned := { name := "ytjpboackbjfenaa", sum := "2f2effcad86fcaeb04beadad9d26d1f2c5eb5f6ff3f14ee2b4d0103af2aebfcf", checked := Try.checked }
namespace Rows
def none {H : Type} : Left H := { results := [], args := [] }

/-- 'footbridgelaw09.VocabMay': WHATEVER THE INPUT: true; the input reads as it did. -/
def vocabMaySpec : ChangeSpec := { name := "vocabMay", fn := fun _ => fun
  | [d] => { results := [.lit (.bool true)], args := [d] }
  | _ => none }
def vocabMayRow : OpenClaim := { program := "ytjpboackbjfenaa", sum := "2f2effcad86fcaeb04beadad9d26d1f2c5eb5f6ff3f14ee2b4d0103af2aebfcf", func := "footbridge/footbridgelaw09.VocabMay", spec := "vocabMay", unfollowed := true, recurses := true, plainKeys := false, apart := false }
def VocabMaySaid : Prop := vocabMayRow.holds Try.pinned (OpenSpec.ofChange vocabMaySpec)

/-- ITS FALSE NEIGHBOUR: 'it returns false'. Refute it at one input. -/
def vocabMayWrong : ChangeSpec := { name := "vocabMay", fn := fun _ => fun
  | [d] => { results := [.lit (.bool false)], args := [d] }
  | _ => none }
def VocabMayWrongFalsely : Prop := vocabMayRow.holds Try.pinned (OpenSpec.ofChange vocabMayWrong)

/-- 'footbridgelaw09.VocabRows': WHATEVER THE INPUT: true; the input reads as it did. -/
def vocabRowsSpec : ChangeSpec := { name := "vocabRows", fn := fun _ => fun
  | [d1, d2] => { results := [.lit (.bool true)], args := [d1, d2] }
  | _ => none }
def vocabRowsRow : OpenClaim := { program := "ytjpboackbjfenaa", sum := "2f2effcad86fcaeb04beadad9d26d1f2c5eb5f6ff3f14ee2b4d0103af2aebfcf", func := "footbridge/footbridgelaw09.VocabRows", spec := "vocabRows", unfollowed := true, recurses := true, plainKeys := false, apart := false }
def VocabRowsSaid : Prop := vocabRowsRow.holds Try.pinned (OpenSpec.ofChange vocabRowsSpec)

/-- ITS FALSE NEIGHBOUR: 'it returns false'. Refute it at one input. -/
def vocabRowsWrong : ChangeSpec := { name := "vocabRows", fn := fun _ => fun
  | [d1, d2] => { results := [.lit (.bool false)], args := [d1, d2] }
  | _ => none }
def VocabRowsWrongFalsely : Prop := vocabRowsRow.holds Try.pinned (OpenSpec.ofChange vocabRowsWrong)

/-- 'footbridgelaw09.VocabTables': WHATEVER THE INPUT: true; the input reads as it did. -/
def vocabTablesSpec : ChangeSpec := { name := "vocabTables", fn := fun _ => fun
  | [d1, d2] => { results := [.lit (.bool true)], args := [d1, d2] }
  | _ => none }
def vocabTablesRow : OpenClaim := { program := "ytjpboackbjfenaa", sum := "2f2effcad86fcaeb04beadad9d26d1f2c5eb5f6ff3f14ee2b4d0103af2aebfcf", func := "footbridge/footbridgelaw09.VocabTables", spec := "vocabTables", unfollowed := true, recurses := true, plainKeys := false, apart := false }
def VocabTablesSaid : Prop := vocabTablesRow.holds Try.pinned (OpenSpec.ofChange vocabTablesSpec)

/-- ITS FALSE NEIGHBOUR: 'it returns false'. Refute it at one input. -/
def vocabTablesWrong : ChangeSpec := { name := "vocabTables", fn := fun _ => fun
  | [d1, d2] => { results := [.lit (.bool false)], args := [d1, d2] }
  | _ => none }
def VocabTablesWrongFalsely : Prop := vocabTablesRow.holds Try.pinned (OpenSpec.ofChange vocabTablesWrong)

/-- 'footbridgelaw09.VocabLooks': WHATEVER THE INPUT: true; the input reads as it did. -/
def vocabLooksSpec : ChangeSpec := { name := "vocabLooks", fn := fun _ => fun
  | [d1, d2, d3, d4] => { results := [.lit (.bool true)], args := [d1, d2, d3, d4] }
  | _ => none }
def vocabLooksRow : OpenClaim := { program := "ytjpboackbjfenaa", sum := "2f2effcad86fcaeb04beadad9d26d1f2c5eb5f6ff3f14ee2b4d0103af2aebfcf", func := "footbridge/footbridgelaw09.VocabLooks", spec := "vocabLooks", unfollowed := true, recurses := true, plainKeys := false, apart := false }
def VocabLooksSaid : Prop := vocabLooksRow.holds Try.pinned (OpenSpec.ofChange vocabLooksSpec)

/-- ITS FALSE NEIGHBOUR: 'it returns false'. Refute it at one input. -/
def vocabLooksWrong : ChangeSpec := { name := "vocabLooks", fn := fun _ => fun
  | [d1, d2, d3, d4] => { results := [.lit (.bool false)], args := [d1, d2, d3, d4] }
  | _ => none }
def VocabLooksWrongFalsely : Prop := vocabLooksRow.holds Try.pinned (OpenSpec.ofChange vocabLooksWrong)

/-- 'footbridgelaw09.VocabThere': WHATEVER THE INPUT: true; the input reads as it did. -/
def vocabThereSpec : ChangeSpec := { name := "vocabThere", fn := fun _ => fun
  | [d1, d2] => { results := [.lit (.bool true)], args := [d1, d2] }
  | _ => none }
def vocabThereRow : OpenClaim := { program := "ytjpboackbjfenaa", sum := "2f2effcad86fcaeb04beadad9d26d1f2c5eb5f6ff3f14ee2b4d0103af2aebfcf", func := "footbridge/footbridgelaw09.VocabThere", spec := "vocabThere", unfollowed := true, recurses := true, plainKeys := false, apart := false }
def VocabThereSaid : Prop := vocabThereRow.holds Try.pinned (OpenSpec.ofChange vocabThereSpec)

/-- ITS FALSE NEIGHBOUR: 'it returns false'. Refute it at one input. -/
def vocabThereWrong : ChangeSpec := { name := "vocabThere", fn := fun _ => fun
  | [d1, d2] => { results := [.lit (.bool false)], args := [d1, d2] }
  | _ => none }
def VocabThereWrongFalsely : Prop := vocabThereRow.holds Try.pinned (OpenSpec.ofChange vocabThereWrong)

/-- 'footbridgelaw09.VocabTurned': WHATEVER THE INPUT: true; the input reads as it did. -/
def vocabTurnedSpec : ChangeSpec := { name := "vocabTurned", fn := fun _ => fun
  | [d1, d2] => { results := [.lit (.bool true)], args := [d1, d2] }
  | _ => none }
def vocabTurnedRow : OpenClaim := { program := "ytjpboackbjfenaa", sum := "2f2effcad86fcaeb04beadad9d26d1f2c5eb5f6ff3f14ee2b4d0103af2aebfcf", func := "footbridge/footbridgelaw09.VocabTurned", spec := "vocabTurned", unfollowed := true, recurses := true, plainKeys := false, apart := false }
def VocabTurnedSaid : Prop := vocabTurnedRow.holds Try.pinned (OpenSpec.ofChange vocabTurnedSpec)

/-- ITS FALSE NEIGHBOUR: 'it returns false'. Refute it at one input. -/
def vocabTurnedWrong : ChangeSpec := { name := "vocabTurned", fn := fun _ => fun
  | [d1, d2] => { results := [.lit (.bool false)], args := [d1, d2] }
  | _ => none }
def VocabTurnedWrongFalsely : Prop := vocabTurnedRow.holds Try.pinned (OpenSpec.ofChange vocabTurnedWrong)

/- THE SECOND FORM. 'bulk': how many values and letters a reading holds, each counted each time it is reached (what is shared counts as often as it is met; a slice's spare places count too). A statement '..UptoSaid' is the law's where the arguments, and the package variables that the reading takes, are together of bulk at most 1048576: NARROWER than '..Said'. Prove '..Said' where nothing that the law and all that it calls make is longer than what came in: it says more and counts as full. Else prove '..UptoSaid'. A law counts once. -/
mutual
def uptoBulk {H : Type} : DataW H → Nat
  | .lit (.string bytes) => bytes.length + 1
  | .lit _ => 1
  | .nil => 1
  | .ptr d => uptoBulk d + 1
  | .slice elems spare => uptoBulkAll elems + uptoBulkAll spare + 1
  | .agg parts => uptoBulkAll parts + 1
  | .iface _ d => uptoBulk d + 1
  | .map entries => uptoBulkEntries entries + 1
  | .held _ => 1
def uptoBulkAll {H : Type} : List (DataW H) → Nat
  | [] => 0
  | d :: r => uptoBulk d + uptoBulkAll r
def uptoBulkEntries {H : Type} : List (Lit × DataW H) → Nat
  | [] => 0
  | x :: r => uptoBulkEntry x + uptoBulkEntries r
def uptoBulkEntry {H : Type} : Lit × DataW H → Nat
  | (.string bytes, d) => bytes.length + uptoBulk d + 1
  | (_, d) => uptoBulk d + 1
 end
def uptoSmall : (H : Type) → List (DataW H) → Bool := fun _ ds => decide (uptoBulkAll ds ≤ 1048576)
def OpenSpec.upto (s : _root_.Go.ChangeSpec) : _root_.Go.OpenSpec := { _root_.Go.OpenSpec.ofChange s with cond := some uptoSmall }

/-- 'footbridgelaw09.VocabMay', WHERE WHAT IT READS IS OF BULK AT MOST 1048576: true; the input reads as it did. -/
def vocabMayUptoRow : OpenClaim := { program := "ytjpboackbjfenaa", sum := "2f2effcad86fcaeb04beadad9d26d1f2c5eb5f6ff3f14ee2b4d0103af2aebfcf", func := "footbridge/footbridgelaw09.VocabMay", spec := "vocabMay", unfollowed := true, recurses := true, plainKeys := false, apart := false, narrowed := true }
def VocabMayUptoSaid : Prop := vocabMayUptoRow.holds Try.pinned (OpenSpec.upto vocabMaySpec)

/-- 'footbridgelaw09.VocabRows', WHERE WHAT IT READS IS OF BULK AT MOST 1048576: true; the input reads as it did. -/
def vocabRowsUptoRow : OpenClaim := { program := "ytjpboackbjfenaa", sum := "2f2effcad86fcaeb04beadad9d26d1f2c5eb5f6ff3f14ee2b4d0103af2aebfcf", func := "footbridge/footbridgelaw09.VocabRows", spec := "vocabRows", unfollowed := true, recurses := true, plainKeys := false, apart := false, narrowed := true }
def VocabRowsUptoSaid : Prop := vocabRowsUptoRow.holds Try.pinned (OpenSpec.upto vocabRowsSpec)

/-- 'footbridgelaw09.VocabTables', WHERE WHAT IT READS IS OF BULK AT MOST 1048576: true; the input reads as it did. -/
def vocabTablesUptoRow : OpenClaim := { program := "ytjpboackbjfenaa", sum := "2f2effcad86fcaeb04beadad9d26d1f2c5eb5f6ff3f14ee2b4d0103af2aebfcf", func := "footbridge/footbridgelaw09.VocabTables", spec := "vocabTables", unfollowed := true, recurses := true, plainKeys := false, apart := false, narrowed := true }
def VocabTablesUptoSaid : Prop := vocabTablesUptoRow.holds Try.pinned (OpenSpec.upto vocabTablesSpec)

/-- 'footbridgelaw09.VocabLooks', WHERE WHAT IT READS IS OF BULK AT MOST 1048576: true; the input reads as it did. -/
def vocabLooksUptoRow : OpenClaim := { program := "ytjpboackbjfenaa", sum := "2f2effcad86fcaeb04beadad9d26d1f2c5eb5f6ff3f14ee2b4d0103af2aebfcf", func := "footbridge/footbridgelaw09.VocabLooks", spec := "vocabLooks", unfollowed := true, recurses := true, plainKeys := false, apart := false, narrowed := true }
def VocabLooksUptoSaid : Prop := vocabLooksUptoRow.holds Try.pinned (OpenSpec.upto vocabLooksSpec)

/-- 'footbridgelaw09.VocabThere', WHERE WHAT IT READS IS OF BULK AT MOST 1048576: true; the input reads as it did. -/
def vocabThereUptoRow : OpenClaim := { program := "ytjpboackbjfenaa", sum := "2f2effcad86fcaeb04beadad9d26d1f2c5eb5f6ff3f14ee2b4d0103af2aebfcf", func := "footbridge/footbridgelaw09.VocabThere", spec := "vocabThere", unfollowed := true, recurses := true, plainKeys := false, apart := false, narrowed := true }
def VocabThereUptoSaid : Prop := vocabThereUptoRow.holds Try.pinned (OpenSpec.upto vocabThereSpec)

/-- 'footbridgelaw09.VocabTurned', WHERE WHAT IT READS IS OF BULK AT MOST 1048576: true; the input reads as it did. -/
def vocabTurnedUptoRow : OpenClaim := { program := "ytjpboackbjfenaa", sum := "2f2effcad86fcaeb04beadad9d26d1f2c5eb5f6ff3f14ee2b4d0103af2aebfcf", func := "footbridge/footbridgelaw09.VocabTurned", spec := "vocabTurned", unfollowed := true, recurses := true, plainKeys := false, apart := false, narrowed := true }
def VocabTurnedUptoSaid : Prop := vocabTurnedUptoRow.holds Try.pinned (OpenSpec.upto vocabTurnedSpec)

end Rows
end Go.Proofs.Ytjpboackbjfenaa
