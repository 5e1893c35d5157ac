/-
  What a row of a file is in the dump.
-/
import Derived.Test.YtecbmonbeogdjaaChecked
import Derived.Test.YtecbmonbeogdjaaRk
namespace Go.Proofs.Ytecbmonbeogdjaa
open Go.RowKit
theorem Try.infoR : (Try.prog.info? 50).map (fun i => (i.zero, i.size, i.bytes)) = some (some (.agg #[.string ⟨#[]⟩, .int .i64 0]), 2, 24) := by kernel_rfl
end Go.Proofs.Ytecbmonbeogdjaa
