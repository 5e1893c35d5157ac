/-
  No cell of these rows narrows 'for every input' (looked for: loops, veiled, ifaces, maps, wideKeys, modest, calm, conditions, laid).
  DERIVED. THE GIVEN ROWS OF THIS SEAT. 5 by the template 'for every input the law returns true; each argument reads behind the call as it read before'; 0 by the template 'total and deterministic' (their statements: YtfgbpjajkmfkoaaTotals.lean).
  GIVEN WITH THE SEED: the statements are not yours to turn. If you find one false, say at which input.
  Laid BY PROGRAM, IN A SANDBOX (cutbox-rows.mjs): the forced cells as the released guide's own fill.sh prints them over the translation c21e09039f0e31f9… (all of the seat's roots in one cut). By AI agents, Wed Nov 11 2026. No macro, syntax, notation, axiom, sorry.
-/
import Derived.Test.YtfgbpjajkmfkoaaChecked
import GoSem.Claim
import GoSem.ClaimJoined
import GoSem.ClaimMapViews
import Derived.JoinedTies
import Derived.KernelRfl
namespace Go.Proofs.Ytfgbpjajkmfkoaa
/- THE CELL 'sum', in the pinned program and in every row, IS THE sha256 OF THE DUMP (.gsa) THAT YtfgbpjajkmfkoaaProg.lean LOADS. Nothing in Lean hashes anything: it is a label: what it is worth is what the hold of that sum in a sandbox is worth. -/
noncomputable def Try.pinned : Pinned := { name := "ytfgbpjajkmfkoaa", sum := "c21e09039f0e31f903f2632188e3296e1751410a5dd91022c8aee77432948bc7", checked := Try.checked }
namespace Rows
def none {H : Type} : Left H := { results := [], args := [] }

/-- 'footbridgelaw10.PairFinds': WHATEVER THE INPUT: true; the input reads as it did. -/
def pairFindsSpec : ChangeSpec := { name := "pairFinds", fn := fun _ => fun
  | [d1, d2, d3] => { results := [.lit (.bool true)], args := [d1, d2, d3] }
  | _ => none }
def pairFindsRow : OpenClaim := { program := "ytfgbpjajkmfkoaa", sum := "c21e09039f0e31f903f2632188e3296e1751410a5dd91022c8aee77432948bc7", func := "footbridge/footbridgelaw10.PairFinds", spec := "pairFinds", unfollowed := true, recurses := true, plainKeys := false, apart := false }
def PairFindsSaid : Prop := pairFindsRow.holds Try.pinned (OpenSpec.ofChange pairFindsSpec)

/-- ITS FALSE NEIGHBOUR: 'it returns false'. Refute it at one input. -/
def pairFindsWrong : ChangeSpec := { name := "pairFinds", fn := fun _ => fun
  | [d1, d2, d3] => { results := [.lit (.bool false)], args := [d1, d2, d3] }
  | _ => none }
def PairFindsWrongFalsely : Prop := pairFindsRow.holds Try.pinned (OpenSpec.ofChange pairFindsWrong)

/-- 'footbridgelaw10.PairSteps': WHATEVER THE INPUT: true; the input reads as it did. -/
def pairStepsSpec : ChangeSpec := { name := "pairSteps", fn := fun _ => fun
  | [d1, d2] => { results := [.lit (.bool true)], args := [d1, d2] }
  | _ => none }
def pairStepsRow : OpenClaim := { program := "ytfgbpjajkmfkoaa", sum := "c21e09039f0e31f903f2632188e3296e1751410a5dd91022c8aee77432948bc7", func := "footbridge/footbridgelaw10.PairSteps", spec := "pairSteps", unfollowed := true, recurses := true, plainKeys := false, apart := false }
def PairStepsSaid : Prop := pairStepsRow.holds Try.pinned (OpenSpec.ofChange pairStepsSpec)

/-- ITS FALSE NEIGHBOUR: 'it returns false'. Refute it at one input. -/
def pairStepsWrong : ChangeSpec := { name := "pairSteps", fn := fun _ => fun
  | [d1, d2] => { results := [.lit (.bool false)], args := [d1, d2] }
  | _ => none }
def PairStepsWrongFalsely : Prop := pairStepsRow.holds Try.pinned (OpenSpec.ofChange pairStepsWrong)

/-- 'footbridgelaw10.PairRuns': WHATEVER THE INPUT: true; the input reads as it did. -/
def pairRunsSpec : ChangeSpec := { name := "pairRuns", fn := fun _ => fun
  | [d1, d2] => { results := [.lit (.bool true)], args := [d1, d2] }
  | _ => none }
def pairRunsRow : OpenClaim := { program := "ytfgbpjajkmfkoaa", sum := "c21e09039f0e31f903f2632188e3296e1751410a5dd91022c8aee77432948bc7", func := "footbridge/footbridgelaw10.PairRuns", spec := "pairRuns", unfollowed := true, recurses := true, plainKeys := false, apart := false }
def PairRunsSaid : Prop := pairRunsRow.holds Try.pinned (OpenSpec.ofChange pairRunsSpec)

/-- ITS FALSE NEIGHBOUR: 'it returns false'. Refute it at one input. -/
def pairRunsWrong : ChangeSpec := { name := "pairRuns", fn := fun _ => fun
  | [d1, d2] => { results := [.lit (.bool false)], args := [d1, d2] }
  | _ => none }
def PairRunsWrongFalsely : Prop := pairRunsRow.holds Try.pinned (OpenSpec.ofChange pairRunsWrong)

/-- 'footbridgelaw10.PairBytes': WHATEVER THE INPUT: true; the input reads as it did. -/
def pairBytesSpec : ChangeSpec := { name := "pairBytes", fn := fun _ => fun
  | [d1, d2] => { results := [.lit (.bool true)], args := [d1, d2] }
  | _ => none }
def pairBytesRow : OpenClaim := { program := "ytfgbpjajkmfkoaa", sum := "c21e09039f0e31f903f2632188e3296e1751410a5dd91022c8aee77432948bc7", func := "footbridge/footbridgelaw10.PairBytes", spec := "pairBytes", unfollowed := true, recurses := true, plainKeys := false, apart := false }
def PairBytesSaid : Prop := pairBytesRow.holds Try.pinned (OpenSpec.ofChange pairBytesSpec)

/-- ITS FALSE NEIGHBOUR: 'it returns false'. Refute it at one input. -/
def pairBytesWrong : ChangeSpec := { name := "pairBytes", fn := fun _ => fun
  | [d1, d2] => { results := [.lit (.bool false)], args := [d1, d2] }
  | _ => none }
def PairBytesWrongFalsely : Prop := pairBytesRow.holds Try.pinned (OpenSpec.ofChange pairBytesWrong)

/-- 'footbridgelaw10.PairApart': WHATEVER THE INPUT: true; the input reads as it did. -/
def pairApartSpec : ChangeSpec := { name := "pairApart", fn := fun _ => fun
  | [d1, d2, d3, d4] => { results := [.lit (.bool true)], args := [d1, d2, d3, d4] }
  | _ => none }
def pairApartRow : OpenClaim := { program := "ytfgbpjajkmfkoaa", sum := "c21e09039f0e31f903f2632188e3296e1751410a5dd91022c8aee77432948bc7", func := "footbridge/footbridgelaw10.PairApart", spec := "pairApart", unfollowed := true, recurses := true, plainKeys := false, apart := false }
def PairApartSaid : Prop := pairApartRow.holds Try.pinned (OpenSpec.ofChange pairApartSpec)

/-- ITS FALSE NEIGHBOUR: 'it returns false'. Refute it at one input. -/
def pairApartWrong : ChangeSpec := { name := "pairApart", fn := fun _ => fun
  | [d1, d2, d3, d4] => { results := [.lit (.bool false)], args := [d1, d2, d3, d4] }
  | _ => none }
def PairApartWrongFalsely : Prop := pairApartRow.holds Try.pinned (OpenSpec.ofChange pairApartWrong)

/- THE SECOND FORM. 'bulk': how many values and letters a reading holds, each counted each time it is reached (what is shared counts as often as it is met; a slice's spare places count too). A statement '..UptoSaid' is the law's where the arguments, and the package variables that the reading takes, are together of bulk at most 1048576: NARROWER than '..Said'. Prove '..Said' where nothing that the law and all that it calls make is longer than what came in: it says more and counts as full. Else prove '..UptoSaid'. A law counts once. -/
mutual
def uptoBulk {H : Type} : DataW H → Nat
  | .lit (.string bytes) => bytes.length + 1
  | .lit _ => 1
  | .nil => 1
  | .ptr d => uptoBulk d + 1
  | .slice elems spare => uptoBulkAll elems + uptoBulkAll spare + 1
  | .agg parts => uptoBulkAll parts + 1
  | .iface _ d => uptoBulk d + 1
  | .map entries => uptoBulkEntries entries + 1
  | .held _ => 1
def uptoBulkAll {H : Type} : List (DataW H) → Nat
  | [] => 0
  | d :: r => uptoBulk d + uptoBulkAll r
def uptoBulkEntries {H : Type} : List (Lit × DataW H) → Nat
  | [] => 0
  | x :: r => uptoBulkEntry x + uptoBulkEntries r
def uptoBulkEntry {H : Type} : Lit × DataW H → Nat
  | (.string bytes, d) => bytes.length + uptoBulk d + 1
  | (_, d) => uptoBulk d + 1
 end
def uptoSmall : (H : Type) → List (DataW H) → Bool := fun _ ds => decide (uptoBulkAll ds ≤ 1048576)
def OpenSpec.upto (s : _root_.Go.ChangeSpec) : _root_.Go.OpenSpec := { _root_.Go.OpenSpec.ofChange s with cond := some uptoSmall }

/-- 'footbridgelaw10.PairFinds', WHERE WHAT IT READS IS OF BULK AT MOST 1048576: true; the input reads as it did. -/
def pairFindsUptoRow : OpenClaim := { program := "ytfgbpjajkmfkoaa", sum := "c21e09039f0e31f903f2632188e3296e1751410a5dd91022c8aee77432948bc7", func := "footbridge/footbridgelaw10.PairFinds", spec := "pairFinds", unfollowed := true, recurses := true, plainKeys := false, apart := false, narrowed := true }
def PairFindsUptoSaid : Prop := pairFindsUptoRow.holds Try.pinned (OpenSpec.upto pairFindsSpec)

/-- 'footbridgelaw10.PairSteps', WHERE WHAT IT READS IS OF BULK AT MOST 1048576: true; the input reads as it did. -/
def pairStepsUptoRow : OpenClaim := { program := "ytfgbpjajkmfkoaa", sum := "c21e09039f0e31f903f2632188e3296e1751410a5dd91022c8aee77432948bc7", func := "footbridge/footbridgelaw10.PairSteps", spec := "pairSteps", unfollowed := true, recurses := true, plainKeys := false, apart := false, narrowed := true }
def PairStepsUptoSaid : Prop := pairStepsUptoRow.holds Try.pinned (OpenSpec.upto pairStepsSpec)

/-- 'footbridgelaw10.PairRuns', WHERE WHAT IT READS IS OF BULK AT MOST 1048576: true; the input reads as it did. -/
def pairRunsUptoRow : OpenClaim := { program := "ytfgbpjajkmfkoaa", sum := "c21e09039f0e31f903f2632188e3296e1751410a5dd91022c8aee77432948bc7", func := "footbridge/footbridgelaw10.PairRuns", spec := "pairRuns", unfollowed := true, recurses := true, plainKeys := false, apart := false, narrowed := true }
def PairRunsUptoSaid : Prop := pairRunsUptoRow.holds Try.pinned (OpenSpec.upto pairRunsSpec)

/-- 'footbridgelaw10.PairBytes', WHERE WHAT IT READS IS OF BULK AT MOST 1048576: true; the input reads as it did. -/
def pairBytesUptoRow : OpenClaim := { program := "ytfgbpjajkmfkoaa", sum := "c21e09039f0e31f903f2632188e3296e1751410a5dd91022c8aee77432948bc7", func := "footbridge/footbridgelaw10.PairBytes", spec := "pairBytes", unfollowed := true, recurses := true, plainKeys := false, apart := false, narrowed := true }
def PairBytesUptoSaid : Prop := pairBytesUptoRow.holds Try.pinned (OpenSpec.upto pairBytesSpec)

/-- 'footbridgelaw10.PairApart', WHERE WHAT IT READS IS OF BULK AT MOST 1048576: true; the input reads as it did. -/
def pairApartUptoRow : OpenClaim := { program := "ytfgbpjajkmfkoaa", sum := "c21e09039f0e31f903f2632188e3296e1751410a5dd91022c8aee77432948bc7", func := "footbridge/footbridgelaw10.PairApart", spec := "pairApart", unfollowed := true, recurses := true, plainKeys := false, apart := false, narrowed := true }
def PairApartUptoSaid : Prop := pairApartUptoRow.holds Try.pinned (OpenSpec.upto pairApartSpec)

end Rows
end Go.Proofs.Ytfgbpjajkmfkoaa
