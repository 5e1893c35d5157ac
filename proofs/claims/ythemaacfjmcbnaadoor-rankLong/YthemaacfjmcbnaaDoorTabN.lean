/-
  The name of the library's table of powers of ten, as the given row lists it.
-/
import Derived.Test.YthemaacfjmcbnaaDoorRows
namespace Go.Proofs.YthemaacfjmcbnaaDoor
def tabName : String := (Rows.rankWritesRow.laid.map (·.1)).getD 2 ""
end Go.Proofs.YthemaacfjmcbnaaDoor
