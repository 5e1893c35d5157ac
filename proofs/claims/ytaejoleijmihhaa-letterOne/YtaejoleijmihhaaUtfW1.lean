/-
  Walks of package utf's small functions: sizeOf, secondOf, isPoint, follow, and of the reference's long.
-/
import Derived.Test.YtaejoleijmihhaaChecked
import Derived.Test.YtaejoleijmihhaaUtfMath
import Derived.Test.YtaejoleijmihhaaUtfBits
import Derived.Test.YtaejoleijmihhaaBase
namespace Go.Proofs.Ytaejoleijmihhaa
open Go.RowKit
set_option linter.unusedVariables false


theorem sizeOf_calls (c : Int) (w : World) :
    Calls Try.prog 24 #[.int .u8 c] w fun e w' => e = .returned (.int .i64 (Utf.sizeOf c)) ∧ w' = w := by
  go_enter Try.func24, Try.ntmps24
  go_wp2
  all_goals (go_ret; refine ⟨ret_int ?_, rfl⟩)
  · exact (Utf.sizeOf_1 (by omega)).symm
  · exact (Utf.sizeOf_0 (by omega) (by omega)).symm
  · exact (Utf.sizeOf_2 (by omega) (by omega)).symm
  · exact (Utf.sizeOf_3 (by omega) (by omega)).symm
  · exact (Utf.sizeOf_4 (by omega) (by omega)).symm
  · exact (Utf.sizeOf_5 (by omega)).symm

theorem ret_two {k k' : IntKind} {a b c d : Int} (h : a = b) (h' : c = d) : Ending.returned (.tuple #[.int k a, .int k' c]) = .returned (.tuple #[.int k b, .int k' d]) := by rw [h, h']

theorem secondOf_calls (c : Int) (w : World) :
    Calls Try.prog 30 #[.int .u8 c] w fun e w' => e = .returned (.tuple #[.int .u8 (Utf.lo2 c), .int .u8 (Utf.hi2 c)]) ∧ w' = w := by
  go_enter Try.func30, Try.ntmps30
  go_wp2
  all_goals (go_ret2; refine ⟨ret_two ?_ ?_, rfl⟩)
  all_goals (simp only [beq_iff_eq, beq_eq_false_iff_ne, ne_eq] at *; first | unfold Utf.lo2 | unfold Utf.hi2);
  all_goals ( repeat (first | rw [if_pos (by omega)] | rw [if_neg (by omega)]))

theorem isPoint_calls (n : Int) (w : World) :
    Calls Try.prog 22 #[.int .i64 n] w fun e w' => e = .returned (.bool (Utf.isPt n)) ∧ w' = w := by
  go_enter Try.func22, Try.ntmps22
  go_wp2
  all_goals (go_ret; refine ⟨ret_bool ?_, rfl⟩; simp [Utf.isPt]; try omega)

theorem follow_calls (n : Int) (h0 : 0 ≤ n) (h1 : n ≤ 1114111) (w : World) :
    Calls Try.prog 23 #[.int .i64 n] w fun e w' => e = .returned (.int .u8 (128 + n % 64)) ∧ w' = w := by
  go_enter Try.func23, Try.ntmps23
  go_wp2
  go_ret
  refine ⟨ret_int ?_, rfl⟩
  rw [Utf.i64_and63 n h0 (by omega), Utf.i64_or64 128 _ (by omega) (by omega) (by omega) (by omega) (by omega)]
  omega

theorem long_calls (c : Int) (w : World) :
    Calls Try.prog 27 #[.int .u8 c] w fun e w' => e = .returned (.int .i64 (Utf.long c)) ∧ w' = w := by
  go_enter Try.func27, Try.ntmps27
  go_wp2
  all_goals (go_ret; refine ⟨ret_int ?_, rfl⟩; unfold Utf.long; repeat (first | rw [if_pos (by omega)] | rw [if_neg (by omega)]))
end Go.Proofs.Ytaejoleijmihhaa
