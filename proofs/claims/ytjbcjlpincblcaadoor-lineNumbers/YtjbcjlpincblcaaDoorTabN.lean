/-
  The name of the library's table of powers of ten, as the given row lists it.
-/
import Derived.Test.YtjbcjlpincblcaaDoorRows
namespace Go.Proofs.YtjbcjlpincblcaaDoor
def tabName : String := (Rows.lineLinesRow.laid.map (·.1)).getD 2 ""
end Go.Proofs.YtjbcjlpincblcaaDoor
