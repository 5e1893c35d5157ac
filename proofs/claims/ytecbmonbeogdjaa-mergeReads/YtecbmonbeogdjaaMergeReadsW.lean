/-
  The walk of the law MergeReads.
-/
import Derived.Test.YtecbmonbeogdjaaMgF
import Derived.Test.YtecbmonbeogdjaaMgR2
import Derived.Test.YtecbmonbeogdjaaMgS
namespace Go.Proofs.Ytecbmonbeogdjaa
open Go.RowKit
set_option linter.unusedVariables false

theorem lns_len (s : ByteArray) : (lns s).length ≤ s.size + 1 := by
  unfold lns Ln.lines
  split
  · simp
  · have h1 := pcs_len 10 (Ln.trim (by_ s)) []
    have h2 : (Ln.trim (by_ s)).length ≤ (by_ s).length := by
      unfold Ln.trim
      split
      · simp
      · exact Nat.le_refl _
    rw [by_length] at h2
    rw [List.length_map]
    omega

set_option maxRecDepth 100000 in
set_option maxHeartbeats 3200000 in
theorem mergeReads_calls (a0 : Option Addr) (n0 c0 : Nat) (f0 : Nat → Int) (w : World) (h0 : Sl w a0 n0 c0 f0) :
    Calls Try.prog 3 #[.slice a0 n0 c0] w fun e w' => e = .returned (.bool true) ∧ Below w.heap.size w w' := by
  have S0 := hid h0
  clear h0
  by_cases hb0 : 1000 < n0
  · have hb0' : (1000 : Int) < n0 := by omega
    go_enter Try.func3, Try.ntmps3
    go_wp2_with fail
    refine (fixed08_calls _).mono ?_
    rintro e w' ⟨rfl, hb⟩
    go_wp2_with fail
    go_ret
    exact ⟨rfl, hb⟩
  have hb0' : ¬ (1000 : Int) < n0 := by omega
  obtain ⟨X, hX⟩ : ∃ X, str f0 n0 = X := ⟨_, rfl⟩
  have hXs : X.size = n0 := by rw [← hX]; exact str_size f0 n0
  have HX := hid hX
  have hll := lns_len X
  clear hX
  go_enter Try.func3, Try.ntmps3
  go_wp2_with fail
  refine (mRead_calls a0 n0 c0 f0 _ (by omega) S0.out (by rw [HX.out]; omega)).mono ?_
  rintro e w1 ⟨⟨rs, ps, ar, nr, cr, ap, np, cp, l1, e1, rfl, r1, p1, f1⟩, hb1⟩
  rw [HX.out] at f1
  have R1 := hid r1
  have P1 := hid p1
  have F1 := hid f1
  have B1 := hid hb1
  have s1 := hb1.size
  have D1 := hid (((Below.refl _ w1).alloc (Nat.le_refl _) (.cells #[.slice ar nr cr, .slice ap np cp] 27)).alloc (by simp) (.cells #[.int .i64 l1, .int .i64 e1] 30))
  have C1 := hid ((hb1.alloc s1 (.cells #[.slice ar nr cr, .slice ap np cp] 27)).alloc (by simp; omega) (.cells #[.int .i64 l1, .int .i64 e1] 30))
  have X1 := hid ((Bx2.new w1 27 (.slice ar nr cr) (.slice ap np cp)).alloc (.cells #[.int .i64 l1, .int .i64 e1] 30))
  have Z1 := hid (Bx2.new (w1.alloc (.cells #[.slice ar nr cr, .slice ap np cp] 27)) 30 (.int .i64 l1) (.int .i64 e1))
  rw [World.size_alloc] at Z1
  have cv := run_convert_sl (P := Try.prog) _ 22 5 9 Try.underlying22 Try.underlying5 Try.underlying9 (S0.out.below C1.out)
  rw [HX.out] at cv
  clear r1 p1 f1 hb1
  go_wp2_with fail
  refine (rfRead_calls X _ (by omega) (by omega)).mono ?_
  rintro e w2 ⟨⟨rs2, ps2, ar2, nr2, cr2, ap2, np2, cp2, l2, e2, rfl, r2, p2, f2⟩, hb2⟩
  obtain ⟨rfl, rfl, rfl, rfl⟩ := F1.out.one f2
  have X2 := hid ((X1.out.below hb2 X1.out.lt).alloc (.cells #[.slice ar2 nr2 cr2, .slice ap2 np2 cp2, .int .i64 l1, .int .i64 e1] 34))
  have Z2 := hid ((Z1.out.below hb2 Z1.out.lt).alloc (.cells #[.slice ar2 nr2 cr2, .slice ap2 np2 cp2, .int .i64 l1, .int .i64 e1] 34))
  have Y2 := hid (Bx4.new w2 34 (.slice ar2 nr2 cr2) (.slice ap2 np2 cp2) (.int .i64 l1) (.int .i64 e1))
  have B2 := hid (C1.out.trans (hb2.mono C1.out.size))
  have s2 := B2.out.size
  have dw := hid ((Below.refl _ w2).alloc (Nat.le_refl _) (.cells #[.slice ar2 nr2 cr2, .slice ap2 np2 cp2, .int .i64 l1, .int .i64 e1] 34))
  have C2 := hid (B2.out.alloc s2 (.cells #[.slice ar2 nr2 cr2, .slice ap2 np2 cp2, .int .i64 l1, .int .i64 e1] 34))
  have R12 := hid (((R1.out.below D1.out).below hb2).below dw.out)
  have P12 := hid (((P1.out.below D1.out).below hb2).below dw.out)
  have R22 := hid (r2.below dw.out)
  have P22 := hid (p2.below dw.out)
  obtain rfl : nr = nr2 := R12.out.len.symm.trans r2.len
  obtain rfl : np = np2 := P12.out.len.symm.trans p2.len
  have hkr : nr ≤ 1048576 ∧ np ≤ 1048576 := by
    have h1 := R22.out.len
    have h3 := P22.out.len
    have h2 := F1.out.len
    omega
  clear cv hb2 r2 p2 f2 R1 P1 X1 Z1 B1 C1 D1
  go_wp2_with fail
  refine (fixed08_calls _).mono ?_
  rintro e w3 ⟨rfl, hb3⟩
  have X3 := X2.out.below hb3 X2.out.lt
  have Z3 := Z2.out.below hb3 Z2.out.lt
  have Y3 := Y2.out.below hb3 Y2.out.lt
  have x0 := X3.cell0
  have x1 := X3.cell1
  have z0 := Z3.cell0
  have z1 := Z3.cell1
  have y0 := Y3.cell0
  have y1 := Y3.cell1
  have y2 := Y3.cell2
  have y3 := Y3.cell3
  have B4 := hid (C2.out.trans (hb3.mono C2.out.size))
  have R13 := hid (R12.out.below hb3)
  have P13 := hid (P12.out.below hb3)
  have R23 := hid (R22.out.below hb3)
  have P23 := hid (P22.out.below hb3)
  clear hb3 X3 Z3 Y3
  go_wp2_with fail
  refine (msame_yes R13.out R23.out P13.out P23.out hkr.1 hkr.2).mono ?_
  rintro e w4 ⟨rfl, hb4⟩
  have B5 := hid (B4.out.trans (hb4.mono B4.out.size))
  clear hb4
  go_wp2_with fail
  go_ret
  exact ⟨rfl, B5.out⟩
end Go.Proofs.Ytecbmonbeogdjaa
