/-
  What the program says of bytes in memory.
-/
import Derived.Test.YthemaacfjmcbnaaChecked
import Derived.Test.YthemaacfjmcbnaaBase
namespace Go.Proofs.Ythemaacfjmcbnaa
open Go.RowKit
set_option linter.unusedVariables false
theorem Try.infoB : (Try.prog.info? 5).map (fun i => (i.zero, i.size, i.bytes)) = some (some (.int .u8 0), 1, 1) := by kernel_rfl
end Go.Proofs.Ythemaacfjmcbnaa
