/-
  The walk of the law MergeOne.
-/
import Derived.Test.YtecbmonbeogdjaaDoorMgE1
import Derived.Test.YtecbmonbeogdjaaDoorMgF
namespace Go.Proofs.YtecbmonbeogdjaaDoor
open Go.RowKit
set_option linter.unusedVariables false

theorem lns_len (s : ByteArray) : (lns s).length ≤ s.size + 1 := by
  unfold lns Ln.lines
  split
  · simp
  · have h1 := pcs_len 10 (Ln.trim (by_ s)) []
    have h2 : (Ln.trim (by_ s)).length ≤ (by_ s).length := by
      unfold Ln.trim
      split
      · simp
      · exact Nat.le_refl _
    rw [by_length] at h2
    rw [List.length_map]
    omega

set_option maxRecDepth 100000 in
set_option maxHeartbeats 3200000 in
theorem mergeOne_calls (a0 : Option Addr) (n0 c0 : Nat) (f0 : Nat → Int) (w : World) (h0 : Sl w a0 n0 c0 f0) (ht : Tab w) :
    Calls Tryd.prog 5 #[.slice a0 n0 c0] w fun e w' => e = .returned (.bool true) ∧ Below w.heap.size w w' := by
  have S0 := hid h0
  have T0 := hid ht
  clear h0 ht
  by_cases hb0 : 2000 < n0
  · have hb0' : (2000 : Int) < n0 := by omega
    go_enter Tryd.func5, Tryd.ntmps5
    go_wp2_with fail
    refine (fixed08_calls _).mono ?_
    rintro e w' ⟨rfl, hb⟩
    go_wp2_with fail
    go_ret
    exact ⟨rfl, hb⟩
  have hb0' : ¬ (2000 : Int) < n0 := by omega
  obtain ⟨X, hX⟩ : ∃ X, str f0 n0 = X := ⟨_, rfl⟩
  have hXs : X.size = n0 := by rw [← hX]; exact str_size f0 n0
  have HX := hid hX
  have hll := lns_len X
  clear hX
  go_enter Tryd.func5, Tryd.ntmps5
  go_wp2_with fail
  refine (mRead_calls a0 n0 c0 f0 _ (by omega) S0.out (by rw [HX.out]; omega)).mono ?_
  rintro e w1 ⟨⟨rs, ps, ar, nr, cr, ap, np, cp, l1, e1, rfl, r1, p1, f1⟩, hb1⟩
  rw [HX.out] at f1
  have hlr := r1.len
  have hlp := p1.len
  have s1 := hb1.size
  have dw := hid (((Below.refl _ w1).alloc (Nat.le_refl _) (.cells #[.slice ar nr cr, .slice ap np cp] 25)).alloc (by simp) (.cells #[.int .i64 l1, .int .i64 e1] 35))
  have B1 := hid (hb1.trans (dw.out.mono s1))
  have R1 := hid (r1.below dw.out)
  have P1 := hid (p1.below dw.out)
  have X1 := hid ((Bx2.new w1 25 (.slice ar nr cr) (.slice ap np cp)).alloc (.cells #[.int .i64 l1, .int .i64 e1] 35))
  have Z1 := hid (Bx2.new (w1.alloc (.cells #[.slice ar nr cr, .slice ap np cp] 25)) 35 (.int .i64 l1) (.int .i64 e1))
  rw [World.size_alloc] at Z1
  clear r1 p1 hb1 dw s1
  by_cases hz : l1 = 0
  · have HZ := hid (show l1 = 0 ∧ e1 = 0 from by
      refine ⟨hz, ?_⟩
      rcases f1 with ⟨_, _, h⟩ | ⟨_, _, st, _, _, _, _, h, _⟩ | ⟨_, _, j, _, _, _, _, _, _, h⟩
      · exact h
      · omega
      · omega)
    obtain rfl : l1 = 0 := HZ.out.1
    obtain rfl : e1 = 0 := HZ.out.2
    have F1 := hid (Mg.file_one' f1)
    have hlen := f1.len
    clear f1 hz HZ
    go_wp2_with fail
    obtain ⟨W1, hW1⟩ : ∃ W1, (w1.alloc (.cells #[.slice ar nr cr, .slice ap np cp] 25)).alloc (.cells #[.int .i64 0, .int .i64 0] 35) = W1 := ⟨_, rfl⟩
    rw [hW1] at B1 R1 P1 X1 Z1 ⊢
    clear hW1
    refine (mWrite_calls R1.out P1.out (T0.out.below B1.out)).mono ?_
    rintro e w2 ⟨ho, hb2⟩
    have B2 := hid (B1.out.trans (hb2.mono B1.out.size))
    clear hb2
    rcases ho with ⟨_, a2, c2, rfl, s2⟩ | ⟨hA, rfl⟩
    · have S2 := hid s2
      clear s2
      obtain ⟨N, hN⟩ : ∃ N, (Mg.fileL rs ps).length = N := ⟨_, rfl⟩
      obtain ⟨Y, hY⟩ : ∃ Y, mk (Mg.fileL rs ps) = Y := ⟨_, rfl⟩
      have hYs : Y.size = N := by rw [← hY, mk_size, hN]
      rw [hN, hY] at S2
      rw [hN]
      have HS := hid (show str (bytesF Y) N = Y by rw [← hYs]; exact str_bytes Y)
      have HD := hid (show Y = X ∨ Y = X ++ (⟨#[10]⟩ : ByteArray) by rw [← hY]; exact F1.out.2.2)
      clear hN hY hYs
      go_wp2_with fail
      refine (fixed08_calls _).mono ?_
      rintro e w3 ⟨rfl, hb3⟩
      have B3 := hid (B2.out.trans (hb3.mono B2.out.size))
      have S3 := hid (S2.out.below hb3)
      have cv := run_convert_sl (P := Tryd.prog) w3 28 5 9 Tryd.underlying28 Tryd.underlying5 Tryd.underlying9 S3.out
      have cw := run_convert_sl (P := Tryd.prog) w3 28 5 9 Tryd.underlying28 Tryd.underlying5 Tryd.underlying9 (S0.out.below B3.out)
      rw [HS.out] at cv
      rw [HX.out] at cw
      clear hb3
      rcases HD.out with h | h
      · rw [h] at cv
        have hXX : (X.toList == X.toList) = true := beq_self_eq_true _
        go_wp2_with fail
        go_ret
        exact ⟨rfl, B3.out⟩
      · rw [h] at cv
        have h1 : ((X ++ (⟨#[10]⟩ : ByteArray)).toList == X.toList) = false := by
          rw [beq_eq_false_iff_ne]
          intro e
          have := congrArg List.length e
          rw [by_toList, by_toList, by_length, by_length, ByteArray.size_append] at this
          have h10 : (⟨#[10]⟩ : ByteArray).size = 1 := rfl
          omega
        have h2 : ((X ++ (⟨#[10]⟩ : ByteArray)).toList == (X ++ (⟨#[10]⟩ : ByteArray)).toList) = true := beq_self_eq_true _
        have h3 : ¬ 9223372036854775807 < X.size + 1 := by omega
        go_wp2_with fail
        go_ret
        exact ⟨rfl, B3.out⟩
    · exact absurd (show Mg.Ok rs ps from ⟨F1.out.1, F1.out.2.1, by omega, by omega⟩) hA
  · have HE := hid (show rs = [] ∧ ps = [] from by
      rcases f1 with ⟨_, h, _⟩ | ⟨h1, h2, _⟩ | ⟨h1, h2, _⟩
      · exact absurd h hz
      · exact ⟨h1, h2⟩
      · exact ⟨h1, h2⟩)
    have hz' : (l1 == 0) = false := beq_eq_false_iff_ne.2 hz
    obtain rfl : nr = 0 := by rw [← hlr, HE.out.1]; rfl
    obtain rfl : np = 0 := by rw [← hlp, HE.out.2]; rfl
    clear f1
    go_wp2_with fail
    refine (fixed08_calls _).mono ?_
    rintro e w3 ⟨rfl, hb3⟩
    have B3 := hid (B1.out.trans (hb3.mono B1.out.size))
    have X3 := X1.out.below hb3 X1.out.lt
    have x0 := X3.cell0
    have x1 := X3.cell1
    clear hb3 X3
    go_wp2_with fail
    go_ret
    exact ⟨rfl, B3.out⟩
end Go.Proofs.YtecbmonbeogdjaaDoor
