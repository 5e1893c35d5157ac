/-
  What a row of a file is in the dump.
-/
import Derived.Test.YtecbmonbeogdjaaDoorChecked
import Derived.Test.YtecbmonbeogdjaaDoorRk
namespace Go.Proofs.YtecbmonbeogdjaaDoor
open Go.RowKit
theorem Tryd.infoR : (Tryd.prog.info? 43).map (fun i => (i.zero, i.size, i.bytes)) = some (some (.agg #[.string ⟨#[]⟩, .int .i64 0]), 2, 24) := by kernel_rfl
end Go.Proofs.YtecbmonbeogdjaaDoor
