/-
  Walks of ring: empty, Pop, Shift, At (things of one kind).
-/
import Derived.Test.YtgjeiikjpacocaaRgB1
import Derived.Deep.RegionHeld3
namespace Go.Proofs.Ytgjeiikjpacocaa.RB
open Go.RowKit
set_option linter.unusedVariables false
section
variable {w : World} {B : Nat} {o : Option Nat} {D room fr cnt n first : Nat} {g f : Nat → Int}

set_option maxHeartbeats 1600000 in
theorem empty_b (h : RbB w B (some D) room fr cnt n first g) (i : Nat) (hi : i ≤ n) (hfr : fr ≤ 1099511627776) (N : Int) (hN : N = fr + i) :
    Calls Try.prog 31 #[ptr B, .int .i64 N] w fun e w' => e = .returned (.int .u8 (g ((first + i) % n))) ∧ RbB w' B (some D) room fr cnt n first (upd g ((first + i) % n) 0) ∧ Mut (own B (some D)) w w' := by
  have h0 : 0 < n := by have := (h.row D rfl).2.1; omega
  have P := hid (place_b h i hi h0 hfr N hN)
  clear hN
  have hp := pl_lt (first := first) (i := i) h0
  have HH := hid h
  have c3 := h.c3
  have HMX := hid (show n ≤ 1048576 by have := h.lr; have := h.mx; omega)
  clear h
  generalize (first + i) % n = p at *
  have hp1 : (p : Int) < n := by omega
  have hp0 : (0 : Int) ≤ p := by omega
  go_enter Try.func31, Try.ntmps31
  go_wp2_with fail
  refine P.out.mono ?_
  rintro e w1 ⟨rfl, m, rfl⟩
  have cd := HH.out.cd p hp
  have fzd := HH.out.fzd p
  clear P
  simp only [Option.map_some] at c3
  have R1 := hid (HH.out.drewN m)
  have M1 := hid (Mut.drewN (own B (some D)) w m)
  have c3 : (w.drewN m).cell? ⟨B, 3, none⟩ = some (.slice (some ⟨D, 0, none⟩) n n) := c3
  have cd : (w.drewN m).cell? ⟨D, p, none⟩ = some (.int .u8 (g p)) := cd
  have fzd : (w.drewN m).frozen? ⟨D, p, none⟩ = false := fzd
  generalize w.drewN m = w1 at *
  go_wp2
  go_ret
  exact ⟨rfl, R1.out.put p 0, M1.out.trans (Mut.set w1 D p _ (S := own B (some D)) (.inr rfl)) (fun _ _ e => e)⟩

set_option maxHeartbeats 1600000 in
theorem shift_no (h : RbB w B o room fr 0 n first g) :
    Calls Try.prog 19 #[ptr B] w fun e w' => e = .returned (.tuple #[.int .u8 0, .bool false]) ∧ w' = w := by
  have c2 := h.c2
  clear h
  go_enter Try.func19, Try.ntmps19
  go_wp2
  go_ret2
  exact ⟨rfl, rfl⟩
end
end Go.Proofs.Ytgjeiikjpacocaa.RB
