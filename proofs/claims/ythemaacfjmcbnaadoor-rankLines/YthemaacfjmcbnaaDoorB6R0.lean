/-
  The walk of the reference's value.
-/
import Derived.Test.YthemaacfjmcbnaaDoorSlX
import Derived.Test.YthemaacfjmcbnaaDoorB6W1
import Derived.Test.YthemaacfjmcbnaaDoorB6MathB
import Derived.Test.YthemaacfjmcbnaaDoorSt
import Derived.Deep.LoopGhost
namespace Go.Proofs.YthemaacfjmcbnaaDoor
open Go.RowKit
set_option linter.unusedVariables false

theorem value_calls (c : Int) (h0 : 0 ≤ c) (h1 : c ≤ 255) (w : World) :
    Calls Tryd.prog 36 #[.int .u8 c] w fun e w' => e = .returned (.int .i64 (B6.val c)) ∧ w' = w := by
  go_enter Tryd.func36, Tryd.ntmps36
  go_wp2
  all_goals (go_ret; refine ⟨ret_int ?_, rfl⟩; (try simp only [beq_iff_eq, beq_eq_false_iff_ne, ne_eq] at *); unfold B6.val; (repeat (first | rw [if_pos (by omega)] | rw [if_neg (by omega)])); try omega)
end Go.Proofs.YthemaacfjmcbnaaDoor
