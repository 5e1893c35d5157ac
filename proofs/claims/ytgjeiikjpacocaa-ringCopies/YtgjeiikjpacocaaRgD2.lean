/-
  The walk of 'does' where the first thing is taken.
-/
import Derived.Test.YtgjeiikjpacocaaRgD
namespace Go.Proofs.Ytgjeiikjpacocaa
open Go.RowKit RI
open Rr (row SkI cells_at kept_block alloc_block two_new)
set_option linter.unusedVariables false
section
variable {w : World} {X : Nat → Prop} {B : Nat} {o : Option Nat} {room fr cnt : Nat} {a : Option Addr} {cap : Nat} {f : Nat → Int}

set_option maxRecDepth 100000 in
set_option maxHeartbeats 3200000 in
theorem does2_gen (hO : ∀ k, own B o k → X k) (hX : ∀ k, X k → k < w.heap.size) (R : RnI w B o room fr cnt f) (S : SkI w X a cnt cap f) (x N : Int) (xv : Int) (b : Bool) (n' fr' : Nat) (f' : Nat → Int) (hfr : fr' ≤ fr + 1)
    (CR : ∀ w1 X1, SkI w1 X1 a cnt cap f → (∀ k, X1 k → k < w1.heap.size) → Calls Try.prog 30 #[row a cnt cap fr room] w1 fun e w' => ∃ a' cap', e = .returned (.tuple #[row a' n' cap' (fr' : Nat) room, .int .i32 xv, .bool b]) ∧ Rr.Out w1 X1 n' f' a' cap' w')
    (CP : ∀ w1, RnI w1 B o room fr cnt f → Calls Try.prog 23 #[ptr B] w1 fun e w' => e = .returned (.tuple #[.int .i32 xv, .bool b]) ∧ RnI w' B o room fr' n' f' ∧ Mut (own B o) w1 w') :
    Calls Try.prog 11 #[ptr B, row a cnt cap fr room, opv 2 x N] w fun e w' => ∃ v, e = .returned (.tuple #[v, .bool true]) ∧ DoesOut w X B o room fr v w' := by
  obtain ⟨hA, hP, hR, hS, hL⟩ := three_new w (.cells #[.slice a cnt cap, .int .i64 fr, .int .i64 room] 29) (.cells #[.int .u8 2, .int .i32 x, .int .i64 N] 31) (.cells #[.slice none 0 0, .int .i64 0, .int .i64 0] 29)
  have HCR := hid CR
  have HCP := hid CP
  clear CR CP
  have hle := R.cle
  have hmx := R.mx
  have R0 := hid (R.below hL)
  have S0 := hid (S.xo hL)
  have HO := hid hO
  have HX := hid hX
  have HA := hid hA
  have HP := hid hP
  have HR := hid hR
  have HS := hid hS
  have HL := hid hL
  have hOl : ∀ k, own B o k → k < w.heap.size := fun k hk => hX k (hO k hk)
  have HOL := hid hOl
  clear hA hP hR hS hL R S hO hX hOl
  go_enter Try.func11, Try.ntmps11
  go_wp2_with fail
  generalize ((w.alloc (.cells #[.slice a cnt cap, .int .i64 fr, .int .i64 room] 29)).alloc (.cells #[.int .u8 2, .int .i32 x, .int .i64 N] 31)).alloc (.cells #[.slice none 0 0, .int .i64 0, .int .i64 0] 29) = w0 at *
  refine (HCP.out w0 R0.out).mono ?_
  rintro e w1 ⟨rfl, r1, m1⟩
  have R1 := hid r1
  have M1 := hid ((Mut.ofBelow HL.out (own B o)).trans m1 (fun _ _ e => e))
  have S1 := hid (S0.out.kept m1 (fun k e => .inl (HO.out k e)))
  have A1 := hid (m1.keeps HA.out (fun e => by have := HOL.out _ e; omega))
  have P1 := hid (m1.keeps HP.out (fun e => by have := HOL.out _ e; omega))
  have Q1 := hid (m1.keeps HR.out (fun e => by have := HOL.out _ e; omega))
  have hs : w.heap.size + 3 ≤ w1.heap.size := by have := m1.size; have := HS.out; omega
  clear r1 m1 R0 S0 HA HP HR HL HS HCP
  obtain ⟨a0, a1, a2, _, _, _⟩ := cells_at A1.out
  obtain ⟨p0, p1, p2, _, _, _⟩ := cells_at P1.out
  go_wp2_with fail
  refine (HCR.out w1 _ S1.out (fun k hk => by rcases hk with hk | hk; have := HX.out k hk; omega; omega)).mono ?_
  rintro e w2 ⟨a', cap', rfl, out⟩
  have b2 := out.below
  have b3 := b2.alloc b2.size (.cells #[.slice a' n' cap', .int .i64 fr', .int .i64 room] 29)
  have DE := hid (does_end (fr := fr) HO.out HX.out (out.sk.below ((Below.refl _ w2).alloc (Nat.le_refl _) (.cells #[.slice a' n' cap', .int .i64 fr', .int .i64 room] 29))) (R1.out.below b3) (M1.out.trans (Mut.ofBelow b3 (own B o)) (fun _ _ e => e)) (Nat.le_trans hs b3.size) (Mut.refl _ _) (.inl rfl) hfr (.slice a' n' cap') (.int .i64 fr') (.int .i64 room))
  have Q2 := hid (below_keeps b2 Q1.out)
  clear b2 b3 out R1 S1 M1 A1 P1 Q1 HCR HO HX HOL a0 a1 a2 p0 p1 p2
  obtain ⟨q0, q1, q2, f0, f1, f2⟩ := cells_at (alloc_block (o' := .cells #[.slice a' n' cap', .int .i64 fr', .int .i64 room] 29) Q2.out)
  go_wp2_with fail
  exact bodyPost_ret (v := .tuple #[row a' n' cap' fr' room, .bool true]) (by simp [results, Try.results11, go_sem, q0, q1, q2]) rfl ⟨_, rfl, DE.out⟩
end
end Go.Proofs.Ytgjeiikjpacocaa
