/-
  Walks of ring: Pop, Shift (things of one kind).
-/
import Derived.Test.YtgjeiikjpacocaaRgB2
namespace Go.Proofs.Ytgjeiikjpacocaa.RB
open Go.RowKit
set_option linter.unusedVariables false
section
variable {w : World} {B : Nat} {o : Option Nat} {D room fr cnt n first : Nat} {g f : Nat → Int}

set_option maxHeartbeats 1600000 in
theorem shift_yes (h : RbB w B (some D) room fr cnt n first g) (c : Nat) (hc : cnt = c + 1) (hfr : fr + 1 ≤ 1099511627776) :
    Calls Try.prog 19 #[ptr B] w fun e w' => e = .returned (.tuple #[.int .u8 (g ((first + 0) % n)), .bool true]) ∧ RbB w' B (some D) room (fr + 1) c n ((first + 1) % n) (upd g ((first + 0) % n) 0) ∧ Mut (own B (some D)) w w' := by
  obtain ⟨N, hN⟩ : ∃ N : Int, N = fr + (1 : Nat) := ⟨_, rfl⟩
  have hle := h.le
  have hlr := h.lr
  have hmx := h.mx
  have P := hid (empty_b h 0 (by omega) (by omega) fr (by omega))
  have p1 := pl_lt (first := first) (i := 1) (show 0 < n by omega)
  have PL := hid (fun (w1 : World) (R1 : RbB w1 B (some D) room fr cnt n first (upd g ((first + 0) % n) 0)) => place_b R1 1 (by omega) (by omega) (by omega) N hN)
  have c1 := h.c1
  have c2 := h.c2
  have e2 : IntKind.i64.wrap ((fr : Int) + 1) = N := by rw [i64_in (by omega) (by omega)]; omega
  obtain ⟨z, hz⟩ : ∃ z : Int, z = c := ⟨_, rfl⟩
  have e3 : IntKind.i64.wrap ((cnt : Int) - 1) = z := by rw [i64_in (by omega) (by omega)]; omega
  have t0 : ((cnt : Int) == 0) = false := by simp; omega
  have HN := hid hN
  have HC := hid hc
  have HLE := hid hle
  have HZ := hid hz
  clear hN hc hle hz h
  generalize (first + 0) % n = p at *
  generalize (first + 1) % n = q at *
  go_enter Try.func19, Try.ntmps19
  go_wp2_with (go_at_call 18; go_in)
  refine P.out.mono ?_
  rintro e w1 ⟨rfl, r1, m1⟩
  have R1 := hid r1
  have M1 := hid m1
  have c1 := r1.c1
  clear r1 m1 P c2
  go_wp2_with fail
  refine (PL.out w1 R1.out).mono ?_
  rintro e w2 ⟨rfl, m, rfl⟩
  have R2 := hid (R1.out.drewN m)
  have M2 := hid (M1.out.trans (Mut.drewN (own B (some D)) w1 m) (fun _ _ e => e))
  clear R1 M1 PL c1
  generalize w1.drewN m = w2 at *
  have f4 := R2.out.fz 4
  have f1 := R2.out.fz 1
  have f2 := R2.out.fz 2
  have c1 := R2.out.c1
  have c2 := R2.out.c2
  have c4 := R2.out.c4
  go_wp2
  go_ret2
  refine ⟨rfl, ((R2.out.setFirst q q rfl p1).setFrom (fr + 1) N HN.out).setCount c z HZ.out (by have := HC.out; have := HLE.out; omega), ?_⟩
  exact ((M2.out.trans (Mut.set _ B 4 _ (S := own B (some D)) (.inl rfl)) (fun _ _ e => e)).trans (Mut.set _ B 1 _ (S := own B (some D)) (.inl rfl)) (fun _ _ e => e)).trans (Mut.set _ B 2 _ (S := own B (some D)) (.inl rfl)) (fun _ _ e => e)
end
end Go.Proofs.Ytgjeiikjpacocaa.RB
