/-
  Walks of an agenda's row: Len, Less, Swap.
-/
import Derived.Test.YtadkiikakgmpnaaQu
import Derived.BigQuiet
import Derived.Deep.QuietTactic
import Derived.Deep.RegionHeld3
namespace Go.Proofs.Ytadkiikakgmpnaa
open Go.RowKit Go.Maps Hp
set_option linter.unusedVariables false
abbrev pt (O : Nat) : Value := .pointer (some ⟨O, 0, none⟩)
/-- Two blocks of three numbers, just laid. -/
theorem two_new (w : World) (t : TypeId) (x0 x1 x2 y0 y1 y2 : Int) : ∃ W : World, ((w.alloc (.cells #[.int .i64 x0, .int .i64 x1, .int .i64 x2] t)).alloc (.cells #[.int .i64 y0, .int .i64 y1, .int .i64 y2] t)).drew = W ∧ Below w.heap.size w W ∧
    W.cell? ⟨w.heap.size, 0, none⟩ = some (.int .i64 x0) ∧ W.cell? ⟨w.heap.size, 1, none⟩ = some (.int .i64 x1) ∧ W.cell? ⟨w.heap.size + 1, 0, none⟩ = some (.int .i64 y0) ∧ W.cell? ⟨w.heap.size + 1, 1, none⟩ = some (.int .i64 y1) :=
  ⟨_, rfl, (((Below.refl _ _).alloc (Nat.le_refl _) _).alloc (by simp) _).drew, by simp, by simp, by simp, by simp⟩
section
variable {w : World} {O M n : Nat} {v : Value} {f : Nat → Ent}
theorem wlen_calls (h : Ag w O v M n f) : Calls Try.prog 21 #[pt O] w fun e w' => e = .returned (.int .i64 (n : Int)) ∧ w' = w := by
  have c0 := h.c0
  obtain ⟨a, cap, rfl⟩ := h.sl
  clear h
  go_enter Try.func21, Try.ntmps21
  go_wp2_with fail
  go_ret
  exact ⟨rfl, rfl⟩
set_option maxRecDepth 100000 in
set_option maxHeartbeats 3200000 in
theorem less_calls (h : Ag w O v M n f) {i j : Nat} (hi : i < n) (hj : j < n) (hn : n ≤ 1000000) :
    Calls Try.prog 40 #[pt O, .int .i64 (i : Int), .int .i64 (j : Int)] w fun e w' => (∃ t, e = .returned (.bool t) ∧ (t = true ↔ lt (f i) (f j))) ∧ Below w.heap.size w w' := by
  have c0 := h.c0
  obtain ⟨g, cap, rfl, h1, h2⟩ := h.pos (by omega)
  obtain ⟨p0, p1, p2⟩ := h.at' hi
  obtain ⟨q0, q1, q2⟩ := h.at' hj
  obtain ⟨⟨x0, x1, x2⟩, hx⟩ : ∃ x, f i = x := ⟨_, rfl⟩
  obtain ⟨⟨y0, y1, y2⟩, hy⟩ : ∃ x, f j = x := ⟨_, rfl⟩
  rw [hx] at p0 p1 p2
  rw [hy] at q0 q1 q2
  rw [hx, hy]
  simp only at p0 p1 p2 q0 q1 q2
  have k0 : (0 : Int) ≤ i := by omega
  have k1 : (i : Int) < n := by omega
  have k2 : (0 : Int) ≤ j := by omega
  have k3 : (j : Int) < n := by omega
  have key : (x1 = y1 ∧ (lt (x0, x1, x2) (y0, y1, y2) ↔ x0 < y0)) ∨ (x1 ≠ y1 ∧ (lt (x0, x1, x2) (y0, y1, y2) ↔ x1 < y1)) := by
    unfold lt
    by_cases he : x1 = y1
    · exact .inl ⟨he, by simp only; omega⟩
    · exact .inr ⟨he, by simp only; omega⟩
  have KEY := hid key
  clear h hx hy key
  go_enter Try.func40, Try.ntmps40
  go_wp2_with fail
  go_region_held3 (fun w' => w'.cell? ⟨O, 0, none⟩ = some (.slice (some ⟨g, 0, none⟩) n cap) ∧ w'.cell? ⟨g, i * 3, none⟩ = some (.int .i64 x0) ∧ w'.cell? ⟨g, i * 3 + 1, none⟩ = some (.int .i64 x1) ∧ w'.cell? ⟨g, i * 3 + 2, none⟩ = some (.int .i64 x2) ∧ w'.cell? ⟨g, j * 3, none⟩ = some (.int .i64 y0) ∧ w'.cell? ⟨g, j * 3 + 1, none⟩ = some (.int .i64 y1) ∧ w'.cell? ⟨g, j * 3 + 2, none⟩ = some (.int .i64 y2)) (first | exact ⟨c0, p0, p1, p2, q0, q1, q2⟩ | go_keep) (fail)
  · obtain ⟨W, hW, B, d0, d1, d2, d3⟩ := two_new w 28 x0 x1 x2 y0 y1 y2
    rw [hW]
    have B1 := hid B
    clear hW B c0 p0 p1 p2 q0 q1 q2
    rcases KEY.out with ⟨he, hl⟩ | ⟨he, hl⟩
    · subst he
      have HL := hid hl
      clear hl KEY
      go_wp2_with fail
      go_ret
      exact ⟨⟨_, rfl, by simpa using HL.out.symm⟩, B1.out⟩
    · have HL := hid hl
      have hne : (x1 == y1) = false := by simpa using he
      clear hl KEY
      go_wp2_with fail
      go_ret
      exact ⟨⟨_, rfl, by simpa using HL.out.symm⟩, B1.out⟩
  · obtain ⟨W, hW, B, d0, d1, d2, d3⟩ := two_new w 28 y0 y1 y2 x0 x1 x2
    rw [hW]
    have B1 := hid B
    clear hW B c0 p0 p1 p2 q0 q1 q2
    rcases KEY.out with ⟨he, hl⟩ | ⟨he, hl⟩
    · subst he
      have HL := hid hl
      clear hl KEY
      go_wp2_with fail
      go_ret
      exact ⟨⟨_, rfl, by simpa using HL.out.symm⟩, B1.out⟩
    · have HL := hid hl
      have hne : (x1 == y1) = false := by simpa using he
      clear hl KEY
      go_wp2_with fail
      go_ret
      exact ⟨⟨_, rfl, by simpa using HL.out.symm⟩, B1.out⟩
end
end Go.Proofs.Ytadkiikakgmpnaa
