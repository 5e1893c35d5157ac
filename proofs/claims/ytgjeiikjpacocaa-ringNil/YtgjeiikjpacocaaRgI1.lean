/-
  Walks of ring: New, Room, Len, From, place, empty (things of one kind).
-/
import Derived.Test.YtgjeiikjpacocaaChecked
import Derived.Test.YtgjeiikjpacocaaRg
import Derived.BigQuiet
import Derived.Deep.QuietTactic
namespace Go.Proofs.Ytgjeiikjpacocaa.RI
open Go.RowKit
set_option linter.unusedVariables false

abbrev ptr (B : Nat) : Value := .pointer (some ⟨B, 0, none⟩)
abbrev RbI (w : World) (B : Nat) (o : Option Nat) (room fr cnt n first : Nat) (g : Nat → Int) : Prop := Rb w 56 21 .i32 B o room fr cnt n first g
abbrev RnI (w : World) (B : Nat) (o : Option Nat) (room fr cnt : Nat) (f : Nat → Int) : Prop := Rn w 56 21 .i32 B o room fr cnt f

/-- What is reached as a letter: a contract whose outcome is one of two. -/
theorem new_ok (room : Nat) (h : room ≤ 1048576) (f : Nat → Int) (w : World) :
    Calls Try.prog 8 #[.int .i64 room] w fun e w' => e = .returned (ptr w.heap.size) ∧ RnI w' w.heap.size none room 0 0 f ∧ Below w.heap.size w w' := by
  have h1 : ¬ (room : Int) < 0 := by omega
  have h2 : ¬ (1048576 : Int) < room := by omega
  go_enter Try.func8, Try.ntmps8
  go_wp2
  go_ret
  refine ⟨rfl, ⟨0, 0, fun _ => 0, ⟨?_, fun D ho => (by cases ho), fun _ => ⟨rfl, rfl⟩, Nat.le_refl _, Nat.zero_le _, h⟩, fun i hi => by omega⟩, (Below.refl _ _).alloc (Nat.le_refl _) _⟩
  exact heap_alloc_new w _
theorem new_none (room : Int) (h : room < 0 ∨ 1048576 < room) (w : World) :
    Calls Try.prog 8 #[.int .i64 room] w fun e w' => e = .returned (.pointer none) ∧ w' = w := by
  by_cases h1 : room < 0
  · go_enter Try.func8, Try.ntmps8
    go_wp2
    go_ret
    exact ⟨rfl, rfl⟩
  · have h2 : 1048576 < room := by omega
    go_enter Try.func8, Try.ntmps8
    go_wp2
    go_ret
    exact ⟨rfl, rfl⟩
theorem room_nil (w : World) : Calls Try.prog 10 #[.pointer none] w fun e w' => e = .returned (.int .i64 0) ∧ w' = w := by
  go_enter Try.func10, Try.ntmps10
  go_wp2
  go_ret
  exact ⟨rfl, rfl⟩
theorem len_nil (w : World) : Calls Try.prog 12 #[.pointer none] w fun e w' => e = .returned (.int .i64 0) ∧ w' = w := by
  go_enter Try.func12, Try.ntmps12
  go_wp2
  go_ret
  exact ⟨rfl, rfl⟩
section
variable {w : World} {B : Nat} {o : Option Nat} {room fr cnt n first : Nat} {g : Nat → Int}
theorem room_b (h : RbI w B o room fr cnt n first g) : Calls Try.prog 10 #[ptr B] w fun e w' => e = .returned (.int .i64 room) ∧ w' = w := by
  have c0 := h.c0
  clear h
  go_enter Try.func10, Try.ntmps10
  go_wp2
  go_ret
  exact ⟨rfl, rfl⟩
theorem len_b (h : RbI w B o room fr cnt n first g) : Calls Try.prog 12 #[ptr B] w fun e w' => e = .returned (.int .i64 cnt) ∧ w' = w := by
  have c0 := h.c2
  clear h
  go_enter Try.func12, Try.ntmps12
  go_wp2
  go_ret
  exact ⟨rfl, rfl⟩

set_option maxHeartbeats 1600000 in
theorem place_b (h : RbI w B o room fr cnt n first g) (i : Nat) (hi : i ≤ n) (h0 : 0 < n) (hfr : fr ≤ 1099511627776) (N : Int) (hN : N = fr + i) :
    Calls Try.prog 36 #[ptr B, .int .i64 N] w fun e w' => e = .returned (.int .i64 ((first + i) % n : Nat)) ∧ ∃ m, w' = w.drewN m := by
  have c1 := h.c1
  have c3 := h.c3
  have c4 := h.c4
  have hlr := h.lr
  have hmx := h.mx
  have hf : first < n := by obtain ⟨D, hD⟩ := h.pos h0; exact (h.row D hD).2.1
  clear h
  have e1 : IntKind.i64.wrap ((first : Int) + N) = first + N := i64_in (by omega) (by omega)
  have e2 : IntKind.i64.wrap ((first : Int) + N - fr) = (first + i : Nat) := by rw [i64_in (by omega) (by omega)]; omega
  have e3 : ((first + i : Nat) : Int).tmod n = ((first + i) % n : Nat) := by rw [Int.tmod_eq_emod_of_nonneg (by omega)]; rfl
  have e4 : IntKind.i64.wrap (((first + i) % n : Nat) : Int) = ((first + i) % n : Nat) := by have := Nat.mod_lt (first + i) h0; exact i64_in (by omega) (by omega)
  have hnz : (n : Int) ≠ 0 := by omega
  have hnz' : ¬ n = 0 := by omega
  generalize hp : (first + i) % n = p at *
  generalize hq : first + i = q at *
  have HP := hid hp
  have HQ := hid hq
  have HN := hid hN
  clear hp hq hN
  go_enter Try.func36, Try.ntmps36
  go_wp2
  go_quiet (fail)
  go_wp2
  go_ret
  exact ⟨rfl, _, rfl⟩
end
end Go.Proofs.Ytgjeiikjpacocaa.RI
