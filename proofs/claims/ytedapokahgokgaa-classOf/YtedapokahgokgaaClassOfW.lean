/-
  The walk of the law ClassOf.
-/
import Derived.Test.YtedapokahgokgaaClF
import Derived.Test.YtedapokahgokgaaClR1
namespace Go.Proofs.Ytedapokahgokgaa
open Go.RowKit
set_option linter.unusedVariables false

set_option maxHeartbeats 1000000 in
theorem classOf_calls (a : Option Addr) (n cap : Nat) (L H C : Nat → Int) (p : Int) (w : World) (h : Rs w a n cap L H C) :
    Calls Try.prog 3 #[.slice a n cap, .int .i64 p] w fun e w' => e = .returned (.bool true) ∧ Below w.heap.size w w' := by
  have R0 := hid h
  clear h
  by_cases hb0 : 300 < n
  · have hb0' : (300 : Int) < n := by omega
    go_enter Try.func3, Try.ntmps3
    go_wp2_with fail
    refine (fixed02_calls _).mono ?_
    rintro e w' ⟨rfl, hb⟩
    go_wp2_with fail
    go_ret
    exact ⟨rfl, hb⟩
  have hb0' : ¬ (300 : Int) < n := by omega
  cases hm : Cl.may L H C n
  · have E := hid (show Cl.of L H C n p = 0 by unfold Cl.of; rw [hm]; rfl)
    have HM := hid hm
    clear hm
    go_enter Try.func3, Try.ntmps3
    go_wp2_with fail
    refine (rmay_calls a n cap L H C _ R0.out).mono ?_
    rintro e w1 ⟨rfl, b1⟩
    rw [HM.out]
    have B1 := hid b1
    clear b1
    go_wp2_with fail
    refine (fixed02_calls _).mono ?_
    rintro e w2 ⟨rfl, b2⟩
    have B2 := hid (B1.out.trans (b2.mono B1.out.size))
    clear b2
    go_wp2_with fail
    refine (may_calls a n cap L H C _ (R0.out.below B2.out)).mono ?_
    rintro e w3 ⟨rfl, b3⟩
    rw [HM.out]
    have B3 := hid (B2.out.trans (b3.mono B2.out.size))
    clear b3
    go_wp2_with fail
    refine (of_calls a n cap L H C p _ (R0.out.below B3.out)).mono ?_
    rintro e w4 ⟨rfl, b4⟩
    rw [E.out]
    have B4 := hid (B3.out.trans (b4.mono B3.out.size))
    clear b4
    go_wp2_with fail
    go_ret
    exact ⟨rfl, B4.out⟩
  · have E := hid (show Cl.of L H C n p = Cl.cls L H C p 0 n by unfold Cl.of; rw [hm]; rfl)
    have HM := hid hm
    clear hm
    go_enter Try.func3, Try.ntmps3
    go_wp2_with fail
    refine (rmay_calls a n cap L H C _ R0.out).mono ?_
    rintro e w1 ⟨rfl, b1⟩
    rw [HM.out]
    have B1 := hid b1
    clear b1
    go_wp2_with fail
    refine (rof_calls a n cap L H C p _ (R0.out.below B1.out)).mono ?_
    rintro e w1 ⟨rfl, rfl⟩
    go_wp2_with fail
    refine (fixed02_calls _).mono ?_
    rintro e w2 ⟨rfl, b2⟩
    have B2 := hid (B1.out.trans (b2.mono B1.out.size))
    clear b2
    go_wp2_with fail
    refine (may_calls a n cap L H C _ (R0.out.below B2.out)).mono ?_
    rintro e w3 ⟨rfl, b3⟩
    rw [HM.out]
    have B3 := hid (B2.out.trans (b3.mono B2.out.size))
    clear b3
    go_wp2_with fail
    refine (of_calls a n cap L H C p _ (R0.out.below B3.out)).mono ?_
    rintro e w4 ⟨rfl, b4⟩
    rw [E.out]
    have B4 := hid (B3.out.trans (b4.mono B3.out.size))
    clear b4
    go_wp2_with fail
    go_ret
    exact ⟨rfl, B4.out⟩
end Go.Proofs.Ytedapokahgokgaa
