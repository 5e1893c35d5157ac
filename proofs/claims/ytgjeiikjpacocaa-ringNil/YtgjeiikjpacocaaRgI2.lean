/-
  Walks of ring: empty, Pop, Shift, At (things of one kind).
-/
import Derived.Test.YtgjeiikjpacocaaRgI1
import Derived.Deep.RegionHeld3
namespace Go.Proofs.Ytgjeiikjpacocaa.RI
open Go.RowKit
set_option linter.unusedVariables false
section
variable {w : World} {B : Nat} {o : Option Nat} {D room fr cnt n first : Nat} {g f : Nat → Int}

set_option maxHeartbeats 1600000 in
theorem empty_b (h : RbI w B (some D) room fr cnt n first g) (i : Nat) (hi : i ≤ n) (hfr : fr ≤ 1099511627776) (N : Int) (hN : N = fr + i) :
    Calls Try.prog 35 #[ptr B, .int .i64 N] w fun e w' => e = .returned (.int .i32 (g ((first + i) % n))) ∧ RbI w' B (some D) room fr cnt n first (upd g ((first + i) % n) 0) ∧ Mut (own B (some D)) w w' := by
  have h0 : 0 < n := by have := (h.row D rfl).2.1; omega
  have P := hid (place_b h i hi h0 hfr N hN)
  clear hN
  have hp := pl_lt (first := first) (i := i) h0
  have HH := hid h
  have c3 := h.c3
  have HMX := hid (show n ≤ 1048576 by have := h.lr; have := h.mx; omega)
  clear h
  generalize (first + i) % n = p at *
  have hp1 : (p : Int) < n := by omega
  have hp0 : (0 : Int) ≤ p := by omega
  go_enter Try.func35, Try.ntmps35
  go_wp2_with fail
  refine P.out.mono ?_
  rintro e w1 ⟨rfl, m, rfl⟩
  have cd := HH.out.cd p hp
  have fzd := HH.out.fzd p
  clear P
  simp only [Option.map_some] at c3
  have R1 := hid (HH.out.drewN m)
  have M1 := hid (Mut.drewN (own B (some D)) w m)
  have c3 : (w.drewN m).cell? ⟨B, 3, none⟩ = some (.slice (some ⟨D, 0, none⟩) n n) := c3
  have cd : (w.drewN m).cell? ⟨D, p, none⟩ = some (.int .i32 (g p)) := cd
  have fzd : (w.drewN m).frozen? ⟨D, p, none⟩ = false := fzd
  generalize w.drewN m = w1 at *
  go_wp2
  go_ret
  exact ⟨rfl, R1.out.put p 0, M1.out.trans (Mut.set w1 D p _ (S := own B (some D)) (.inr rfl)) (fun _ _ e => e)⟩

set_option maxHeartbeats 1600000 in
theorem at_yes (h : RbI w B o room fr cnt n first g) (i : Nat) (hi : i < cnt) (hfr : fr ≤ 1099511627776) (N : Int) (hN : N = fr + i) :
    Calls Try.prog 24 #[ptr B, .int .i64 N] w fun e w' => e = .returned (.tuple #[.int .i32 (g ((first + i) % n)), .bool true]) ∧ ∃ m, w' = w.drewN m := by
  have hle := h.le
  have h0 : 0 < n := by omega
  obtain ⟨D, rfl⟩ := h.pos h0
  have P := fun (m : Nat) => place_b (h.drewN m) i (by omega) h0 hfr N hN
  have hp := pl_lt (first := first) (i := i) h0
  have cd := h.cd _ hp
  have c1 := h.c1
  have c2 := h.c2
  have c3 := h.c3
  have hmx := h.mx
  have hlr := h.lr
  clear h
  have t1 : ¬ N < fr := by omega
  have e1 : IntKind.i64.wrap ((fr : Int) + cnt) = fr + cnt := i64_in (by omega) (by omega)
  have t2 : ¬ (fr : Int) + cnt ≤ N := by omega
  generalize (first + i) % n = p at *
  have hp1 : (p : Int) < n := by omega
  have hp0 : (0 : Int) ≤ p := by omega
  have HN := hid hN
  have HLE := hid hle
  clear hN hle
  go_enter Try.func24, Try.ntmps24
  go_wp2
  go_quiet (exact Calls.quiet_of (P _))
  go_wp2
  go_ret2
  exact ⟨rfl, _, rfl⟩

set_option maxHeartbeats 1600000 in
theorem at_no (h : RbI w B o room fr cnt n first g) (hfr : fr ≤ 1099511627776) (N : Int) (hN : N < fr ∨ (fr : Int) + cnt ≤ N) :
    Calls Try.prog 24 #[ptr B, .int .i64 N] w fun e w' => e = .returned (.tuple #[.int .i32 0, .bool false]) ∧ w' = w := by
  have hle := h.le
  have c1 := h.c1
  have c2 := h.c2
  have hmx := h.mx
  have hlr := h.lr
  clear h
  have e1 : IntKind.i64.wrap ((fr : Int) + cnt) = fr + cnt := i64_in (by omega) (by omega)
  by_cases t1 : N < fr
  · clear hN
    go_enter Try.func24, Try.ntmps24
    go_wp2
    go_ret2
    exact ⟨rfl, rfl⟩
  · have t2 : (fr : Int) + cnt ≤ N := by omega
    clear hN
    go_enter Try.func24, Try.ntmps24
    go_wp2
    go_ret2
    exact ⟨rfl, rfl⟩

set_option maxHeartbeats 1600000 in
theorem pop_no (h : RbI w B o room fr 0 n first g) :
    Calls Try.prog 22 #[ptr B] w fun e w' => e = .returned (.tuple #[.int .i32 0, .bool false]) ∧ w' = w := by
  have c2 := h.c2
  clear h
  go_enter Try.func22, Try.ntmps22
  go_wp2
  go_ret2
  exact ⟨rfl, rfl⟩
set_option maxHeartbeats 1600000 in
theorem shift_no (h : RbI w B o room fr 0 n first g) :
    Calls Try.prog 23 #[ptr B] w fun e w' => e = .returned (.tuple #[.int .i32 0, .bool false]) ∧ w' = w := by
  have c2 := h.c2
  clear h
  go_enter Try.func23, Try.ntmps23
  go_wp2
  go_ret2
  exact ⟨rfl, rfl⟩
end
end Go.Proofs.Ytgjeiikjpacocaa.RI
