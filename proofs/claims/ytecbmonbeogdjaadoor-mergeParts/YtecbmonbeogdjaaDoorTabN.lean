/-
  The name of the library's table of powers of ten, as the given row lists it.
-/
import Derived.Test.YtecbmonbeogdjaaDoorRows
namespace Go.Proofs.YtecbmonbeogdjaaDoor
def tabName : String := (Rows.mergeWritesRow.laid.map (·.1)).getD 2 ""
end Go.Proofs.YtecbmonbeogdjaaDoor
