/-
  The walk of the reference's value.
-/
import Derived.Test.YthemaacfjmcbnaaSlX
import Derived.Test.YthemaacfjmcbnaaB6W1
import Derived.Test.YthemaacfjmcbnaaB6MathB
import Derived.Test.YthemaacfjmcbnaaSt
import Derived.Deep.LoopGhost
namespace Go.Proofs.Ythemaacfjmcbnaa
open Go.RowKit
set_option linter.unusedVariables false

theorem value_calls (c : Int) (h0 : 0 ≤ c) (h1 : c ≤ 255) (w : World) :
    Calls Try.prog 20 #[.int .u8 c] w fun e w' => e = .returned (.int .i64 (B6.val c)) ∧ w' = w := by
  go_enter Try.func20, Try.ntmps20
  go_wp2
  all_goals (go_ret; refine ⟨ret_int ?_, rfl⟩; (try simp only [beq_iff_eq, beq_eq_false_iff_ne, ne_eq] at *); unfold B6.val; (repeat (first | rw [if_pos (by omega)] | rw [if_neg (by omega)])); try omega)
end Go.Proofs.Ythemaacfjmcbnaa
