/-
  The walk of the law ClassUsual.
-/
import Derived.Test.YtedapokahgokgaaClS
import Derived.Test.YtedapokahgokgaaClR1
namespace Go.Proofs.Ytedapokahgokgaa
open Go.RowKit
set_option linter.unusedVariables false

def isSp (c : Int) : Bool := decide (c = 3 ∨ c = 4)
theorem isSpace_calls (c : Int) (w : World) :
    Calls Try.prog 14 #[.int .i64 c] w fun e w' => e = .returned (.bool (isSp c)) ∧ w' = w := by
  go_enter Try.func14, Try.ntmps14
  go_wp2
  all_goals (go_ret; refine ⟨ret_bool ?_, rfl⟩; unfold isSp; by_cases h3 : c = 3 <;> by_cases h4 : c = 4 <;> simp_all)

set_option maxHeartbeats 1000000 in
theorem classUsual_calls (p c : Int) (w : World) :
    Calls Try.prog 4 #[.int .i64 p, .int .i64 c] w fun e w' => e = .returned (.bool true) ∧ Below w.heap.size w w' := by
  go_enter Try.func4, Try.ntmps4
  go_wp2_with fail
  refine (usual_calls _).mono ?_
  rintro e w1 ⟨rfl, rfl⟩
  have R1 := hid (uRs w 31 w.heap.size rfl)
  have B1 := hid ((Below.refl w.heap.size w).alloc (Nat.le_refl _) (.cells uCells 31))
  generalize w.alloc (.cells uCells 31) = w1 at *
  go_wp2_with fail
  refine (fixed02_calls _).mono ?_
  rintro e w2 ⟨rfl, b2⟩
  have R2 := hid (R1.out.below b2)
  have B2 := hid (B1.out.trans (b2.mono B1.out.size))
  clear b2
  go_wp2_with fail
  refine (may_calls _ _ _ _ _ _ _ R2.out).mono ?_
  rintro e w3 ⟨rfl, b3⟩
  rw [uMay]
  have R3 := hid (R2.out.below b3)
  have B3 := hid (B2.out.trans (b3.mono B2.out.size))
  clear b3
  go_wp2_with fail
  refine (of_calls _ _ _ _ _ _ p _ R3.out).mono ?_
  rintro e w4 ⟨rfl, b4⟩
  have B4 := hid (B3.out.trans (b4.mono B3.out.size))
  clear b4
  go_wp2_with fail
  refine (rusual_calls _).mono ?_
  rintro e w5 ⟨v5, rfl, o5, b5⟩
  obtain ⟨a5, c5, rfl, r5⟩ := Rs.own o5 rfl
  have R5 := hid r5
  have B5 := hid (B4.out.trans (b5.mono B4.out.size))
  clear b5 o5 r5
  go_wp2_with fail
  refine (rof_calls _ _ _ _ _ _ p _ R5.out).mono ?_
  rintro e w5 ⟨rfl, rfl⟩
  rw [usual_cls]
  go_wp2_with fail
  refine (isSpace_calls c _).mono ?_
  rintro e w5 ⟨rfl, rfl⟩
  by_cases h3 : c = 3
  · subst h3
    rw [show isSp 3 = true by decide]
    go_wp2_with fail
    go_ret
    exact ⟨rfl, B5.out⟩
  by_cases h4 : c = 4
  · subst h4
    rw [show isSp 4 = true by decide]
    go_wp2_with fail
    go_ret
    exact ⟨rfl, B5.out⟩
  · rw [show isSp c = false by unfold isSp; simp [h3, h4]]
    have h3' : (c == 3) = false := by simpa using h3
    have h4' : (c == 4) = false := by simpa using h4
    go_wp2_with fail
    go_ret
    exact ⟨rfl, B5.out⟩
end Go.Proofs.Ytedapokahgokgaa
