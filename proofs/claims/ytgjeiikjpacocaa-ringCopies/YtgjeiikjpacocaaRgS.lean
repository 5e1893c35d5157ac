/-
  Walks of the statements' helpers over rings: same, fixed.
-/
import Derived.Test.YtgjeiikjpacocaaRgI7
import Derived.Test.YtgjeiikjpacocaaSk
namespace Go.Proofs.Ytgjeiikjpacocaa
open Go.RowKit RI
set_option linter.unusedVariables false

set_option maxHeartbeats 1600000 in
theorem same_yes {w : World} {X Y : Nat → Prop} {a b : Option Addr} {n ca cb : Nat} {f g : Nat → Int} (h1 : Sk w .i32 X a n ca f) (h2 : Sk w .i32 Y b n cb g) (hn : n ≤ 1048576) (he : ∀ i, i < n → f i = g i) :
    Calls Try.prog 14 #[.slice a n ca, .slice b n cb] w fun e w' => e = .returned (.bool true) ∧ ∃ d, w' = w.drewN d := by
  have H1 := hid h1
  have H2 := hid h2
  have HE := hid he
  clear h1 h2 he
  go_enter Try.func14, Try.ntmps14
  go_wp2_with fail
  go_loopg [13] n (fun k iv wr => ∃ j d : Nat, k = n - j ∧ j ≤ n ∧ iv = .int .i64 j ∧ wr = w.drewN d)
  case atStart => exact ⟨0, 0, rfl, by omega, rfl, rfl⟩
  case round =>
    obtain ⟨j, d, rfl, hj, rfl, rfl⟩ := hrel
    by_cases hlt : j < n
    · have k1 : (j : Int) < n := by omega
      have k0 : (0 : Int) ≤ j := by omega
      have e2 : IntKind.i64.wrap ((j : Int) + 1) = j + 1 := i64_in (by omega) (by omega)
      obtain ⟨b1, o1, rfl, _, _, c1⟩ := H1.out.at' (by omega)
      obtain ⟨b2, o2, rfl, _, _, c2⟩ := H2.out.at' (by omega)
      have q1 := c1 j hlt
      have q2 := c2 j hlt
      rw [← HE.out j hlt] at q2
      clear c1 c2
      go_wp2_with fail
      go_quiet (fail)
      go_wp2_with fail
      go_roundg (n - (j + 1))
      case measure => omega
      case rel => exact ⟨j + 1, d + nq, rfl, by omega, by go_num, rfl⟩
    · have k1 : ¬ (j : Int) < n := by omega
      go_wp2_with fail
      go_ret
      exact ⟨rfl, d, rfl⟩

/-- A ring that was made since w0, of which all is kept. -/
structure RX (w0 w : World) (B : Nat) (o : Option Nat) (room fr cnt : Nat) (f : Nat → Int) : Prop where
  rn : RnI w B o room fr cnt f
  bel : Below w0.heap.size w0 w
  since : ∀ k, own B o k → w0.heap.size ≤ k
theorem RX.step {w0 w w' : World} {B : Nat} {o o' : Option Nat} {room fr cnt fr' cnt' : Nat} {f f' : Nat → Int} (h : RX w0 w B o room fr cnt f) (r : RnI w' B o' room fr' cnt' f') (m : Mut (own B o) w w') (ho : o' = o ∨ ∃ D', o' = some D' ∧ w.heap.size ≤ D') : RX w0 w' B o' room fr' cnt' f' :=
  ⟨r, h.bel.trans (m.below h.bel.size h.since), fun k hk => by
    rcases hk with rfl | hk
    · exact h.since _ (.inl rfl)
    · rcases ho with rfl | ⟨D', rfl, hD⟩
      · exact h.since _ (.inr hk)
      · cases hk; exact Nat.le_trans h.bel.size hD⟩
theorem RX.drewN {w0 w : World} {B : Nat} {o : Option Nat} {room fr cnt : Nat} {f : Nat → Int} (h : RX w0 w B o room fr cnt f) (m : Nat) : RX w0 (w.drewN m) B o room fr cnt f :=
  h.step (h.rn.below (below_drewN (Below.refl _ _) m)) (Mut.drewN _ w m) (.inl rfl)
theorem new_x (w : World) (room : Nat) (h : room ≤ 1048576) (f : Nat → Int) : Calls Try.prog 8 #[.int .i64 room] w fun e w' => ∃ B, e = .returned (ptr B) ∧ RX w w' B none room 0 0 f := by
  refine (new_ok room h f w).mono ?_
  rintro e w1 ⟨rfl, r1, b1⟩
  exact ⟨_, rfl, r1, b1, fun k hk => by rcases hk with rfl | hk; exact Nat.le_refl _; cases hk⟩

set_option maxHeartbeats 3200000 in
theorem fixed_calls (w : World) : Calls Try.prog 9 #[] w fun e w' => e = .returned (.bool true) ∧ Below w.heap.size w w' := by
  go_enter Try.func9, Try.ntmps9
  go_wp2_with fail
  refine (new_x w 3 (by omega) (fun _ => 0)).mono ?_
  rintro e w1 ⟨B, rfl, r1⟩
  have R1 := hid r1
  clear r1
  go_wp2_with fail
  refine (push_n R1.out.rn (by omega) (by omega) 7).mono ?_
  rintro e w2 ⟨rfl, o2, r2, m2, h2⟩
  have R2 := hid (R1.out.step r2 m2 h2)
  clear r2 m2 h2 R1
  go_wp2_with fail
  refine (push_n R2.out.rn (by omega) (by omega) 8).mono ?_
  rintro e w3 ⟨rfl, o3, r3, m3, h3⟩
  have R3 := hid (R2.out.step r3 m3 h3)
  clear r3 m3 h3 R2
  generalize hf3 : sn (sn (fun _ => 0) 0 7) (0 + 1) 8 = f3 at *
  have v0 : f3 0 = 7 := by rw [← hf3]; simp [sn]
  have v1 : f3 1 = 8 := by rw [← hf3]; simp [sn]
  clear hf3
  go_wp2_with fail
  refine (shift_n R3.out.rn 1 rfl (by omega)).mono ?_
  rintro e w4 ⟨rfl, r4, m4⟩
  have R4 := hid (R3.out.step r4 m4 (.inl rfl))
  rw [v0]
  clear r4 m4 R3
  go_wp2_with fail
  refine (push_n R4.out.rn (by omega) (by omega) 9).mono ?_
  rintro e w5 ⟨rfl, o5, r5, m5, h5⟩
  have R5 := hid (R4.out.step r5 m5 h5)
  clear r5 m5 h5 R4
  generalize hf5 : sn (fun i => f3 (i + 1)) 1 9 = f5 at *
  have u0 : f5 0 = 8 := by rw [← hf5]; simp [sn, v1]
  have u1 : f5 1 = 9 := by rw [← hf5]; simp [sn]
  clear hf5
  go_wp2_with fail
  refine (at_in R5.out.rn 0 (by omega) (by omega) 1 (by omega)).mono ?_
  rintro e w6 ⟨rfl, m6, rfl⟩
  have R6 := hid (R5.out.drewN m6)
  rw [u0]
  clear R5
  generalize w5.drewN m6 = w6 at *
  go_wp2_with fail
  refine (at_in R6.out.rn 1 (by omega) (by omega) 2 (by omega)).mono ?_
  rintro e w7 ⟨rfl, m7, rfl⟩
  have R7 := hid (R6.out.drewN m7)
  rw [u1]
  clear R6
  generalize w6.drewN m7 = w7 at *
  go_wp2_with fail
  refine (from_n R7.out.rn).mono ?_
  rintro e w7 ⟨rfl, rfl⟩
  go_wp2_with fail
  refine (cut_in R7.out.rn (by omega) 1 (by omega) 2 (by omega)).mono ?_
  rintro e w8 ⟨rfl, r8, m8⟩
  have R8 := hid (R7.out.step r8 m8 (.inl rfl))
  clear r8 m8 R7
  go_wp2_with fail
  refine (len_n R8.out.rn).mono ?_
  rintro e w8 ⟨rfl, rfl⟩
  go_wp2_with fail
  go_ret
  exact ⟨rfl, R8.out.bel⟩
end Go.Proofs.Ytgjeiikjpacocaa
