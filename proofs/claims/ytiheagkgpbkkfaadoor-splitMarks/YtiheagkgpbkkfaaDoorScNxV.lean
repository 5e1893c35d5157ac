/-
  The first piece of bytes as a value. No program is named here.
-/
import Derived.Test.YtiheagkgpbkkfaaDoorScNx
import Derived.Test.YtiheagkgpbkkfaaDoorLotG
namespace Go.Proofs.YtiheagkgpbkkfaaDoor
open Go.RowKit
def NX (q : Nat × Bool) : Value := .tuple #[.int .i64 (q.1 : Nat), .bool q.2]
theorem ret_nx {a : Int} {b : Bool} {q : Nat × Bool} (h : a = (q.1 : Nat)) (h' : b = q.2) : Ending.returned (.tuple #[.int .i64 a, .bool b]) = .returned (NX q) := by rw [h, h']; rfl
end Go.Proofs.YtiheagkgpbkkfaaDoor
