/-
  The walk of the law's 'fixed' over package utf: it answers true, and writes nothing that was there.
-/
import Derived.Test.YtbobdpklhhkniaaUtfW4
namespace Go.Proofs.Ytbobdpklhhkniaa
open Go.RowKit
set_option linter.unusedVariables false

def exA : Nat → Int := fun i => [226, 130].getD i 0
def exB : Nat → Int := fun i => [226, 130, 172].getD i 0
theorem exA_dec : Utf.dec exA 2 false = (-1, 0, true) := by decide
theorem exB_dec : Utf.dec exB 3 false = (8364, 3, false) := by decide
theorem exA_bd (i : Nat) : 0 ≤ exA i ∧ exA i ≤ 255 := by
  unfold exA
  match i with
  | 0 => decide
  | 1 => decide
  | _ + 2 => simp
theorem exB_bd (i : Nat) : 0 ≤ exB i ∧ exB i ≤ 255 := by
  unfold exB
  match i with
  | 0 => decide
  | 1 => decide
  | 2 => decide
  | _ + 3 => simp

theorem exA_bs (w : World) (t : TypeId) : Bs (w.alloc (.cells #[.int .u8 226, .int .u8 130] t)) w.heap.size 0 2 exA := by
  refine ⟨fun i hi => ?_, exA_bd⟩
  obtain rfl | rfl : i = 0 ∨ i = 1 := by omega
  all_goals simp [exA]
theorem exB_bs (w : World) (t : TypeId) (b : Nat) (hb : b = w.heap.size) : Bs (w.alloc (.cells #[.int .u8 226, .int .u8 130, .int .u8 172] t)) b 0 3 exB := by
  subst hb
  refine ⟨fun i hi => ?_, exB_bd⟩
  obtain rfl | rfl | rfl : i = 0 ∨ i = 1 ∨ i = 2 := by omega
  all_goals simp [exB]

set_option maxHeartbeats 400000 in
theorem fixed_calls (w : World) :
    Calls Try.prog 8 #[] w fun e w' => e = .returned (.bool true) ∧ Below w.heap.size w w' := by
  go_enter Try.func8, Try.ntmps8
  go_wp2_with fail
  refine (decode_some w.heap.size 0 2 2 exA false _ (by omega) (by omega) (by decide) (exA_bs _ _)).mono ?_
  rintro e w' ⟨rfl, rfl⟩
  rw [exA_dec]
  unfold D3
  go_wp2_with fail
  refine (decode_some (w.heap.size + 1) 0 3 3 exB false _ (by omega) (by omega) (by decide) (exB_bs _ _ _ (by simp))).mono ?_
  rintro e w' ⟨rfl, rfl⟩
  rw [exB_dec]
  unfold D3
  go_wp2_with fail
  go_ret
  exact ⟨rfl, ((Below.refl _ _).alloc (Nat.le_refl _) _).alloc (by simp) _⟩
end Go.Proofs.Ytbobdpklhhkniaa
