/-
  The walk of the law LetterTexts.
-/
import Derived.Test.YtaejoleijmihhaaLeF
import Derived.Test.YtaejoleijmihhaaLeR
namespace Go.Proofs.Ytaejoleijmihhaa
open Go.RowKit
set_option linter.unusedVariables false

set_option maxRecDepth 100000 in
set_option maxHeartbeats 3200000 in
theorem letterTexts_calls (a0 : Option Addr) (n0 c0 : Nat) (f0 : Nat → Int) (w : World) (h0 : Sl w a0 n0 c0 f0) :
    Calls Try.prog 4 #[.slice a0 n0 c0] w fun e w' => e = .returned (.bool true) ∧ Below w.heap.size w w' := by
  have S0 := hid h0
  clear h0
  by_cases hb0 : 500 < n0
  · have hb0' : (500 : Int) < n0 := by omega
    go_enter Try.func4, Try.ntmps4
    go_wp2_with fail
    refine (fixed04_calls _).mono ?_
    rintro e w' ⟨rfl, hb⟩
    go_wp2_with fail
    go_ret
    exact ⟨rfl, hb⟩
  have hb0' : ¬ (500 : Int) < n0 := by omega
  obtain ⟨X, hX⟩ : ∃ X, str (Le.wrF f0 n0) (Le.wrN f0 n0) = X := ⟨_, rfl⟩
  obtain ⟨Y, hY⟩ : ∃ Y, str f0 n0 = Y := ⟨_, rfl⟩
  have hSX : St X (Le.wrN f0 n0) (Le.wrF f0 n0) := by rw [← hX]; exact St.of (Le.wrF_bd S0.out.bd _) _
  have hSY : St Y n0 f0 := by rw [← hY]; exact St.of S0.out.bd _
  have HX := hid hX
  have HY := hid hY
  have HSX := hid hSX
  have HSY := hid hSY
  have hXX : (X.toList == X.toList) = true := beq_self_eq_true _
  have hYY : (Y.toList == Y.toList) = true := beq_self_eq_true _
  have hwn := (Le.wrN_bd S0.out.bd n0).2
  have HW : Hid (Le.WR (Le.wrF f0 n0) (Le.wrN f0 n0) f0 n0) := ⟨S0.out.bd, rfl, fun _ _ => rfl⟩
  clear hX hY hSX hSY
  go_enter Try.func4, Try.ntmps4
  go_wp2_with fail
  refine (lwrite_calls _ _ _ _ _ (by omega) S0.out).mono ?_
  rintro e w1 ⟨rfl, hb1⟩
  rw [HX.out]
  have B1 := hid hb1
  have S1 := hid (S0.out.below hb1)
  clear hb1
  go_wp2_with fail
  refine (lread_calls _ _ _ _ (by omega) HSX.out).mono ?_
  rintro e w2 ⟨ho, hb2⟩
  have B2 := hid (B1.out.trans (hb2.mono B1.out.size))
  have S2 := hid (S1.out.below hb2)
  clear hb2
  rcases ho with ⟨g, k, hg, a, c, rfl, hsl⟩ | ⟨p, hp, _⟩
  rotate_left
  · exact (Le.bad_not HW.out hp).elim
  obtain ⟨rfl, hsame⟩ := HW.out.same hg
  have SL := hid hsl
  have HG := hid (show str g k = Y by rw [str_congr hsame]; exact HY.out)
  clear hsl hg hsame
  go_wp2_with fail
  refine (fixed04_calls _).mono ?_
  rintro e w3 ⟨rfl, hb3⟩
  have B3 := hid (B2.out.trans (hb3.mono B2.out.size))
  have S3 := hid (S2.out.below hb3)
  have SL3 := hid (SL.out.below hb3)
  clear hb3
  have cv := run_convert_sl (P := Try.prog) w3 28 5 9 Try.underlying28 Try.underlying5 Try.underlying9 S3.out
  rw [HY.out] at cv
  go_wp2_with fail
  refine (rwrite_calls _ _ _ _ (by omega) HSY.out).mono ?_
  rintro e w4 ⟨rfl, hb4⟩
  rw [HX.out]
  have B4 := hid (B3.out.trans (hb4.mono B3.out.size))
  have cv3 := run_convert_sl (P := Try.prog) w4 28 5 9 Try.underlying28 Try.underlying5 Try.underlying9 (S3.out.below hb4)
  have cv2 := run_convert_sl (P := Try.prog) w4 28 5 9 Try.underlying28 Try.underlying5 Try.underlying9 (SL3.out.below hb4)
  rw [HY.out] at cv3
  rw [HG.out] at cv2
  clear hb4 cv
  go_wp2_with fail
  go_ret
  exact ⟨rfl, B4.out⟩
end Go.Proofs.Ytaejoleijmihhaa
