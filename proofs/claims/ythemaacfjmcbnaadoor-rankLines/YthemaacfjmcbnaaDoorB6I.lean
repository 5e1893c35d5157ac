/-
  What the program says of bytes in memory.
-/
import Derived.Test.YthemaacfjmcbnaaDoorChecked
import Derived.Test.YthemaacfjmcbnaaDoorBase
namespace Go.Proofs.YthemaacfjmcbnaaDoor
open Go.RowKit
set_option linter.unusedVariables false
theorem Tryd.infoB : (Tryd.prog.info? 5).map (fun i => (i.zero, i.size, i.bytes)) = some (some (.int .u8 0), 1, 1) := by kernel_rfl
end Go.Proofs.YthemaacfjmcbnaaDoor
