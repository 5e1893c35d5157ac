/-
  The walk of the law QueueNil.
-/
import Derived.Test.YtadkiikakgmpnaaQuF
namespace Go.Proofs.Ytadkiikakgmpnaa
open Go.RowKit Go.Maps Hp
set_option linter.unusedVariables false
set_option maxRecDepth 100000 in
set_option maxHeartbeats 6400000 in
theorem queueNil_calls (x : Ent) (w : World) : Calls Try.prog 6 #[va x] w fun e w' => e = .returned (.bool true) ∧ Below w.heap.size w w' := by
  obtain ⟨x0, x1, x2⟩ := x
  have B0 := hid ((Below.refl w.heap.size w).alloc (Nat.le_refl _) (.cells #[.int .i64 x0, .int .i64 x1, .int .i64 x2] 28))
  have X0 := hid (Bl.new w x0 x1 x2)
  obtain ⟨W, hW⟩ : ∃ W, w.alloc (.cells #[.int .i64 x0, .int .i64 x1, .int .i64 x2] 28) = W := ⟨_, rfl⟩
  rw [hW] at B0 X0
  have c0 := X0.out.c0
  have c1 := X0.out.c1
  have c2 := X0.out.c2
  simp only at c0 c1 c2
  unfold va
  go_enter Try.func6, Try.ntmps6
  go_wp2_with fail
  clear hW
  refine (aput_nil (x0, x1, x2) _).mono ?_
  rintro e w1 ⟨rfl, b1⟩
  have X1 := hid (X0.out.below b1)
  have B1 := hid (B0.out.trans (b1.mono B0.out.size))
  clear b1 X0 B0 c0 c1 c2
  have c0 := X1.out.c0
  simp only at c0
  go_wp2_with fail
  refine (ahas_nil _ _).mono ?_
  rintro e w2 ⟨rfl, b2⟩
  have bb := (Below.refl w2.heap.size w2).alloc (Nat.le_refl _) (.cells #[.int .i64 0, .int .i64 0, .int .i64 0] 28)
  have X2 := hid ((X1.out.below b2).below bb)
  have B2 := hid ((B1.out.trans (b2.mono B1.out.size)).alloc (Nat.le_trans B1.out.size b2.size) (.cells #[.int .i64 0, .int .i64 0, .int .i64 0] 28))
  unfold va
  clear b2 bb X1 B1 c0
  go_wp2_with fail
  obtain ⟨W2, hW2⟩ : ∃ W, w2.alloc (.cells #[.int .i64 0, .int .i64 0, .int .i64 0] 28) = W := ⟨_, rfl⟩
  rw [hW2] at X2 B2
  rw [hW2]
  clear hW2
  refine (atake_nil _).mono ?_
  rintro e w3 ⟨rfl, b3⟩
  have bb := (Below.refl w3.heap.size w3).alloc (Nat.le_refl _) (.cells #[.int .i64 0, .int .i64 0, .int .i64 0] 28)
  have X3 := hid ((X2.out.below b3).below bb)
  have B3 := hid ((B2.out.trans (b3.mono B2.out.size)).alloc (Nat.le_trans B2.out.size b3.size) (.cells #[.int .i64 0, .int .i64 0, .int .i64 0] 28))
  unfold va
  clear b3 bb X2 B2
  go_wp2_with fail
  obtain ⟨W3, hW3⟩ : ∃ W, w3.alloc (.cells #[.int .i64 0, .int .i64 0, .int .i64 0] 28) = W := ⟨_, rfl⟩
  rw [hW3] at X3 B3
  rw [hW3]
  clear hW3
  refine (qfixed_calls _).mono ?_
  rintro e w4 ⟨rfl, b4⟩
  have X4 := hid (X3.out.below b4)
  have B4 := hid (B3.out.trans (b4.mono B3.out.size))
  clear b4 X3 B3
  go_wp2_with fail
  refine (alen_nil _).mono ?_
  rintro e w5 ⟨rfl, hw5⟩
  subst hw5
  have c0 := X4.out.c0
  simp only at c0
  go_wp2_with fail
  refine (adrop_nil _ _).mono ?_
  rintro e w6 ⟨rfl, hw6⟩
  subst hw6
  go_wp2_with fail
  go_ret
  exact ⟨rfl, B4.out⟩
end Go.Proofs.Ytadkiikakgmpnaa
