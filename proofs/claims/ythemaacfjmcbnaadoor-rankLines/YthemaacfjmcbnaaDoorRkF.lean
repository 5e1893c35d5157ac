/-
  The walk of fixed: the chapter's examples.
-/
import Derived.Test.YthemaacfjmcbnaaDoorRkW2
import Derived.Lib.SlBytesConst
import Derived.Lib.SmallJoins
namespace Go.Proofs.YthemaacfjmcbnaaDoor
open Go.RowKit
set_option linter.unusedVariables false

theorem str_bytes (s : ByteArray) : str (bytesF s) s.size = s := (St.any s).eq_str.symm
/-- Bytes of a constant, just laid, as a slice. -/
theorem Sl.constM {w : World} (s : ByteArray) (n : Nat) (cs : Array Value) (t : TypeId) (fr : Nat × Nat) (hm : n ≤ maxLen) (h : ∀ i, i < n → cs[i]? = some (.int .u8 (bytesF s i))) : Sl (w.alloc (.cells cs t fr)) (some ⟨w.heap.size, 0, none⟩) n n (bytesF s) := by
  refine ⟨Nat.le_refl _, hm, (St.any s).bd, fun e => absurd e (by simp), fun _ => ⟨w.heap.size, 0, rfl, by simp, fun i hi => ?_⟩⟩
  rw [World.cell?_alloc_mark, Nat.zero_add]
  exact h i hi

theorem Sl.constM' {w : World} (s : ByteArray) (n : Nat) (cs : Array Value) (t : TypeId) (fr : Nat × Nat) (b : Nat) (hb : b = w.heap.size) (hm : n ≤ maxLen) (h : ∀ i, i < n → cs[i]? = some (.int .u8 (bytesF s i))) : Sl (w.alloc (.cells cs t fr)) (some ⟨b, 0, none⟩) n n (bytesF s) := by
  subst hb; exact Sl.constM s n cs t fr hm h

def sOne : ByteArray := ⟨#[73, 81, 61, 61, 32, 48, 10]⟩
def sTwo : ByteArray := ⟨#[73, 81, 61, 61, 32, 32, 48]⟩
def lOne : ByteArray := ⟨#[73, 81, 61, 61, 32, 48]⟩
theorem lns_one : lns sOne = [lOne] := by decide +kernel
theorem lns_two : lns sTwo = [sTwo] := by decide +kernel
theorem w0_one : Rk.w0 lOne = ⟨#[73, 81, 61, 61]⟩ := by decide +kernel
theorem w1_one : Rk.w1 lOne = ⟨#[48]⟩ := by decide +kernel
theorem tok_one : Rk.tok lOne = ⟨#[33]⟩ := by decide +kernel
theorem num_one : Rk.num lOne = 0 := by decide +kernel
theorem form_one : Rk.Form lOne := by
  refine ⟨by decide +kernel, ?_, ?_⟩
  · rw [w0_one]
    exact (B6.good_of_last (k := 0) (B6.full_zero _ _) (by decide +kernel) (by decide +kernel)).1
  · rw [w1_one]
    refine ⟨by decide +kernel, by decide +kernel, fun h => absurd h.1 (by decide +kernel), fun i hi => ?_⟩
    have h1 : i < 1 := hi
    obtain rfl : i = 0 := by omega
    decide +kernel
theorem er_one : Rk.Er lOne 0 := .inr (.inr ⟨form_one, by rw [tok_one]; decide +kernel, rfl⟩)
theorem er_two : Rk.Er sTwo 2 := .inl ⟨fun h => absurd h.1 (by decide +kernel), rfl⟩
theorem file_one : Rk.FileIs [lOne] [(⟨#[33]⟩, 0)] 0 0 := by
  refine .inl ⟨fun i hi => ?_, by simp [Rk.row, tok_one, num_one], rfl, rfl⟩
  have h1 : i < 1 := hi
  obtain rfl : i = 0 := by omega
  exact er_one
theorem cells_one : ∀ i, i < 7 → (#[.int .u8 73, .int .u8 81, .int .u8 61, .int .u8 61, .int .u8 32, .int .u8 48, .int .u8 10] : Array Value)[i]? = some (.int .u8 (bytesF sOne i)) := by
  intro i hi
  obtain rfl | rfl | rfl | rfl | rfl | rfl | rfl : i = 0 ∨ i = 1 ∨ i = 2 ∨ i = 3 ∨ i = 4 ∨ i = 5 ∨ i = 6 := by omega
  all_goals rfl
theorem cells_two : ∀ i, i < 7 → (#[.int .u8 73, .int .u8 81, .int .u8 61, .int .u8 61, .int .u8 32, .int .u8 32, .int .u8 48] : Array Value)[i]? = some (.int .u8 (bytesF sTwo i)) := by
  intro i hi
  obtain rfl | rfl | rfl | rfl | rfl | rfl | rfl : i = 0 ∨ i = 1 ∨ i = 2 ∨ i = 3 ∨ i = 4 ∨ i = 5 ∨ i = 6 := by omega
  all_goals rfl
theorem file_two : Rk.FileIs [sTwo] [] 1 2 := .inr ⟨0, by simp, fun j hj => by omega, er_two, by omega, rfl, by omega⟩

set_option maxRecDepth 100000 in
set_option maxHeartbeats 3200000 in
theorem fixed07_calls (w : World) : Calls Tryd.prog 6 #[] w fun e w' => e = .returned (.bool true) ∧ Below w.heap.size w w' := by
  have kc := fun (w : World) (C : Array Value) (n c : Nat) => Lib.run_convert_bytes_const (P := Tryd.prog) w 26 5 C n c Tryd.underlying26 Tryd.underlying5
  have kc2 : ∀ (w : World) (o : Obj) (C : Array Value) (n c : Nat), (convert 26 26 (.slice (some ⟨w.heap.size + 1, 0, none⟩) n c)).run Tryd.prog ((w.alloc o).alloc (.cells C 5)) = .ok (.slice (some ⟨w.heap.size + 1, 0, none⟩) n c) ((w.alloc o).alloc (.cells C 5 (C.size, C.size + 1))) := fun w o C n c => by
    have := kc (w.alloc o) C n c
    rwa [World.size_alloc] at this
  have h1 := str_bytes sOne
  have h2 := str_bytes sTwo
  rw [show sOne.size = 7 from rfl] at h1
  rw [show sTwo.size = 7 from rfl] at h2
  have H1 := hid h1
  have H2 := hid h2
  clear h1 h2
  go_enter Tryd.func6, Tryd.ntmps6
  go_wp2_with fail
  refine (read_calls _ 7 7 (bytesF sOne) _ (by omega) (Sl.constM sOne 7 _ _ _ (by decide) cells_one) (by rw [H1.out, lns_one]; decide)).mono ?_
  rintro e w1 ⟨⟨rows, a1, k1, c1, l1, e1, rfl, r1, f1⟩, hb1⟩
  rw [H1.out, lns_one] at f1
  obtain ⟨rfl, rfl, rfl⟩ := f1.one file_one
  obtain rfl : 1 = k1 := r1.len
  obtain ⟨b, off, rfl, hbl, hc⟩ := r1.at' (by omega)
  obtain ⟨q0, q1⟩ := hc 0 (by omega)
  have q0 : w1.cell? ⟨b, off, none⟩ = some (.string ⟨#[33]⟩) := q0
  have q1 : w1.cell? ⟨b, off + 1, none⟩ = some (.int .i64 0) := q1
  have B1 := hid (((Below.refl _ w).alloc (Nat.le_refl _) _).trans (hb1.mono (by simp)))
  have X1 := hid (Bx2.new w1 33 (.int .i64 0) (.int .i64 0))
  have s1 := B1.out.size
  clear r1 hb1 f1 hc
  go_wp2_with fail
  refine (read_calls _ 7 7 (bytesF sTwo) _ (by omega) (Sl.constM' sTwo 7 _ _ _ _ (by simp) (by decide) cells_two) (by rw [H2.out, lns_two]; decide)).mono ?_
  rintro e w2 ⟨⟨rows, a2, k2, c2, l2, e2, rfl, r2, f2⟩, hb2⟩
  rw [H2.out, lns_two] at f2
  obtain ⟨rfl, rfl, rfl⟩ := f2.one file_two
  obtain rfl : 0 = k2 := r2.len
  have X2 := hid ((X1.out.alloc (.cells #[.int .u8 73, .int .u8 81, .int .u8 61, .int .u8 61, .int .u8 32, .int .u8 32, .int .u8 48] 5 (7, 8))).below hb2 (by simp; omega))
  have B2 := hid (((B1.out.alloc s1 (.cells #[.int .i64 0, .int .i64 0] 33)).alloc (by simp; omega) _).trans (hb2.mono (by simp; omega)))
  have q2 : w2.cell? ⟨b, off, none⟩ = some (.string ⟨#[33]⟩) := by
    rw [hb2.cell (p := ⟨b, off, none⟩) (by simp; omega)]
    exact cell_alloc (cell_alloc q0 _) _
  have q3 : w2.cell? ⟨b, off + 1, none⟩ = some (.int .i64 0) := by
    rw [hb2.cell (p := ⟨b, off + 1, none⟩) (by simp; omega)]
    exact cell_alloc (cell_alloc q1 _) _
  have q2' := cell_alloc q2 (.cells #[.int .i64 1, .int .i64 2] 33)
  have q3' := cell_alloc q3 (.cells #[.int .i64 1, .int .i64 2] 33)
  have x0 := cell_alloc X2.out.cell0 (.cells #[.int .i64 1, .int .i64 2] 33)
  have x1 := cell_alloc X2.out.cell1 (.cells #[.int .i64 1, .int .i64 2] 33)
  have s2 := B2.out.size
  clear hb2 f2 q0 q1 q2 q3
  go_wp2_with fail
  go_ret
  exact ⟨rfl, B2.out.alloc s2 _⟩
end Go.Proofs.YthemaacfjmcbnaaDoor
