/-
  Walks of ring, told of a ring that holds f: Push, Pop, Shift, At, All; Cut and Copy (things of one kind).
-/
import Derived.Test.YtgjeiikjpacocaaRgB6
import Derived.Deep.LoopGhost
namespace Go.Proofs.Ytgjeiikjpacocaa.RB
open Go.RowKit
set_option linter.unusedVariables false
section
variable {w : World} {B : Nat} {o : Option Nat} {room fr cnt : Nat} {f : Nat → Int}

theorem room_n (h : RnB w B o room fr cnt f) : Calls Try.prog 33 #[ptr B] w fun e w' => e = .returned (.int .i64 room) ∧ w' = w := by
  obtain ⟨n, first, g, h, _⟩ := h
  exact room_b h
theorem len_n (h : RnB w B o room fr cnt f) : Calls Try.prog 18 #[ptr B] w fun e w' => e = .returned (.int .i64 cnt) ∧ w' = w := by
  obtain ⟨n, first, g, h, _⟩ := h
  exact len_b h
theorem push_full (h : RnB w B o room fr room f) (x : Int) : Calls Try.prog 20 #[ptr B, .int .u8 x] w fun e w' => e = .returned (.bool false) ∧ w' = w := by
  obtain ⟨n, first, g, h, _⟩ := h
  exact push_no h x
theorem push_n (h : RnB w B o room fr cnt f) (hr : cnt < room) (hfr : fr ≤ 1099511627776) (x : Int) :
    Calls Try.prog 20 #[ptr B, .int .u8 x] w fun e w' => e = .returned (.bool true) ∧ ∃ o', RnB w' B o' room fr (cnt + 1) (sn f cnt x) ∧ Mut (own B o) w w' ∧ (o' = o ∨ ∃ D', o' = some D' ∧ w.heap.size ≤ D') := by
  obtain ⟨n, first, g, h, hv⟩ := h
  exact push_yes h hv hr hfr x
theorem shift_none (h : RnB w B o room fr 0 f) : Calls Try.prog 19 #[ptr B] w fun e w' => e = .returned (.tuple #[.int .u8 0, .bool false]) ∧ w' = w := by
  obtain ⟨n, first, g, h, _⟩ := h
  exact shift_no h
theorem shift_n (h : RnB w B o room fr cnt f) (c : Nat) (hc : cnt = c + 1) (hfr : fr + 1 ≤ 1099511627776) :
    Calls Try.prog 19 #[ptr B] w fun e w' => e = .returned (.tuple #[.int .u8 (f 0), .bool true]) ∧ RnB w' B o room (fr + 1) c (fun i => f (i + 1)) ∧ Mut (own B o) w w' := by
  obtain ⟨n, first, g, h, hv⟩ := h
  have hle := h.le
  obtain ⟨D, rfl⟩ := h.pos (by omega)
  have hf := (h.row D rfl).2.1
  refine (shift_yes h c hc hfr).mono ?_
  rintro e w' ⟨rfl, r, m⟩
  refine ⟨by rw [hv 0 (by omega)], ⟨n, _, _, r, fun i hi => ?_⟩, m⟩
  rw [pl_shift, upd_ne (pl_ne hf (by omega) (by omega) (by omega))]
  exact hv (i + 1) (by omega)
theorem all_n (h : RnB w B o room fr cnt f) : Calls Try.prog 21 #[ptr B] w fun e w' => ∃ a, e = .returned (.slice a cnt cnt) ∧ AllRow w cnt f a w' := by
  obtain ⟨n, first, g, h, hv⟩ := h
  exact all_b h hv
end
end Go.Proofs.Ytgjeiikjpacocaa.RB
