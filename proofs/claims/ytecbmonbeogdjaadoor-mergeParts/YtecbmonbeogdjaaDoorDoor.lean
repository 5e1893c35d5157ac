/-
  What the rows' condition on the listed package-level variables gives the walks: the library's table of powers of ten lies as its initialiser lays it; and a world that meets the condition.
-/
import Derived.Test.YtecbmonbeogdjaaDoorRows
import Derived.Test.YtecbmonbeogdjaaDoorLnN4
import Derived.ProofKit
import Derived.LaidMore
import Derived.Stop.Joined
import Derived.Lib.LaidTab
import Derived.Stop.LaidErr
namespace Go.Proofs.YtecbmonbeogdjaaDoor
open Go.RowKit

/-- The list of the rows. -/
def laidL : List (String × DataW Unit) := Rows.mergeWritesRow.laid
theorem gTab : Tryd.prog.globalNamed tabName = some 0 := by kernel_rfl
theorem tTab : (Tryd.prog.globals[0]?).map (·.type) = some 95 := by kernel_rfl

/-- The heap that the door's own run leaves meets the condition. -/
theorem door_met (os : Os) (args : Array Value) : laidMetH Tryd.prog laidL ((World.doorLaid Tryd.prog 400 os).forCall (fun _ _ => 0) ⟨#[], args, []⟩).memory :=
  laidMetH_of_parts3 (fuel := 8) (laidMet_of_run' 8 (by kernel_rfl) (by kernel_rfl)) (by kernel_rfl) (by kernel_rfl)

theorem of_laid {W : World} (h : laidMetH Tryd.prog laidL W) : Tab W := by
  rw [MakeChecks.laidMetH_plain _ _ _ (by kernel_rfl)] at h
  have h2 : laidMet Tryd.prog ((tabName, Lib.tabData .u64 Lib.pow10Tab) :: laidL.drop (2 + 1)) W := laidMet.tail (laidMet.tail (h))
  exact Lib.tabIs_of_head gTab tTab Tryd.underlying95 Tryd.underlying66 (by kernel_rfl) (by kernel_rfl) h2
end Go.Proofs.YtecbmonbeogdjaaDoor
