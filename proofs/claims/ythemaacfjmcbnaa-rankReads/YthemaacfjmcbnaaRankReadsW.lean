/-
  The walk of the law RankReads.
-/
import Derived.Test.YthemaacfjmcbnaaRkF
import Derived.Test.YthemaacfjmcbnaaRkR
import Derived.Test.YthemaacfjmcbnaaRkS
import Derived.Deep.RegionHeld3
namespace Go.Proofs.Ythemaacfjmcbnaa
open Go.RowKit
set_option linter.unusedVariables false

theorem lns_len (s : ByteArray) : (lns s).length ≤ s.size + 1 := by
  unfold lns Ln.lines
  split
  · simp
  · have h1 := pcs_len 10 (Ln.trim (by_ s)) []
    have h2 : (Ln.trim (by_ s)).length ≤ (by_ s).length := by
      unfold Ln.trim
      split
      · simp
      · exact Nat.le_refl _
    rw [by_length] at h2
    rw [List.length_map]
    omega

set_option maxRecDepth 100000 in
set_option maxHeartbeats 3200000 in
theorem rankReads_calls (a0 : Option Addr) (n0 c0 : Nat) (f0 : Nat → Int) (w : World) (h0 : Sl w a0 n0 c0 f0) :
    Calls Try.prog 3 #[.slice a0 n0 c0] w fun e w' => e = .returned (.bool true) ∧ Below w.heap.size w w' := by
  have S0 := hid h0
  clear h0
  by_cases hb0 : 2000 < n0
  · have hb0' : (2000 : Int) < n0 := by omega
    go_enter Try.func3, Try.ntmps3
    go_wp2_with fail
    refine (fixed07_calls _).mono ?_
    rintro e w' ⟨rfl, hb⟩
    go_wp2_with fail
    go_ret
    exact ⟨rfl, hb⟩
  have hb0' : ¬ (2000 : Int) < n0 := by omega
  obtain ⟨X, hX⟩ : ∃ X, str f0 n0 = X := ⟨_, rfl⟩
  have hXs : X.size = n0 := by rw [← hX]; exact str_size f0 n0
  have HX := hid hX
  have hll := lns_len X
  clear hX
  go_enter Try.func3, Try.ntmps3
  go_wp2_with fail
  refine (read_calls a0 n0 c0 f0 _ (by omega) S0.out (by rw [HX.out]; omega)).mono ?_
  rintro e w1 ⟨⟨rows, a1, k1, c1, l1, e1, rfl, r1, f1⟩, hb1⟩
  rw [HX.out] at f1
  have R1 := hid r1
  have F1 := hid f1
  have B1 := hid hb1
  have X1 := hid (Bx2.new w1 27 (.int .i64 l1) (.int .i64 e1))
  have s1 := hb1.size
  have cv := run_convert_sl (P := Try.prog) (w1.alloc (.cells #[.int .i64 l1, .int .i64 e1] 27)) 22 5 9 Try.underlying22 Try.underlying5 Try.underlying9 (S0.out.below (hb1.alloc s1 _))
  rw [HX.out] at cv
  clear r1 f1 hb1
  go_wp2_with fail
  refine (rread_calls X _ (by omega) (by omega)).mono ?_
  rintro e w2 ⟨⟨rows2, a2, k2, c2, l2, e2, rfl, r2, f2⟩, hb2⟩
  obtain ⟨rfl, rfl, rfl⟩ := F1.out.one f2
  have X2 := hid (X1.out.below hb2 (by simp))
  have B2 := hid ((B1.out.alloc s1 _).trans (hb2.mono (by simp; omega)))
  have R12 := hid ((R1.out.below ((Below.refl _ w1).alloc (Nat.le_refl _) _)).below hb2)
  have R2 := hid r2
  obtain rfl : k1 = k2 := R12.out.len.symm.trans r2.len
  have hk1 : k1 ≤ 2001 := by
    have h1 := R2.out.len
    have h2 := F1.out.len
    omega
  have Y2 := hid (X2.out.alloc (.cells #[.int .i64 l1, .int .i64 e1] 27))
  have Z2 := hid (Bx2.new w2 27 (.int .i64 l1) (.int .i64 e1))
  have s2 := B2.out.size
  have dw := hid ((Below.refl _ w2).alloc (Nat.le_refl _) (.cells #[.int .i64 l1, .int .i64 e1] 27))
  have B3 := hid (B2.out.alloc s2 (.cells #[.int .i64 l1, .int .i64 e1] 27))
  clear cv hb2 r2 f2 R1 X1 B1
  go_wp2_with fail
  refine (fixed07_calls _).mono ?_
  rintro e w3 ⟨rfl, hb3⟩
  have Y3 := Y2.out.below hb3 Y2.out.lt
  have Z3 := Z2.out.below hb3 Z2.out.lt
  have y0 := Y3.cell0
  have y1 := Y3.cell1
  have z0 := Z3.cell0
  have z1 := Z3.cell1
  have B4 := hid (B3.out.trans (hb3.mono B3.out.size))
  have R13 := hid ((R12.out.below dw.out).below hb3)
  have R23 := hid ((R2.out.below dw.out).below hb3)
  clear hb3 Y3 Z3
  go_wp2_with fail
  refine (rsame_yes R13.out R23.out (by omega)).mono ?_
  rintro e w4 ⟨rfl, d4, hw4⟩
  have B5 : Hid (Below w.heap.size w w4) := (by rw [hw4]; exact below_drewN B4.out d4)
  clear hw4
  go_wp2_with fail
  go_ret
  exact ⟨rfl, B5.out⟩
end Go.Proofs.Ythemaacfjmcbnaa
