/-
  The walk of the law Base64Texts.
-/
import Derived.Test.YtanccppmfgghgaaB6F
import Derived.Test.YtanccppmfgghgaaB6R1
namespace Go.Proofs.Ytanccppmfgghgaa
open Go.RowKit
set_option linter.unusedVariables false

set_option maxRecDepth 100000 in
set_option maxHeartbeats 3200000 in
theorem base64Texts_calls (a0 : Option Addr) (n0 c0 : Nat) (f0 : Nat → Int) (w : World) (h0 : Sl w a0 n0 c0 f0) :
    Calls Try.prog 3 #[.slice a0 n0 c0] w fun e w' => e = .returned (.bool true) ∧ Below w.heap.size w w' := by
  have S0 := hid h0
  clear h0
  by_cases hb0 : 2000 < n0
  · have hb0' : (2000 : Int) < n0 := by omega
    go_enter Try.func3, Try.ntmps3
    go_wp2_with fail
    refine (fixed03_calls _).mono ?_
    rintro e w' ⟨rfl, hb⟩
    go_wp2_with fail
    go_ret
    exact ⟨rfl, hb⟩
  have hb0' : ¬ (2000 : Int) < n0 := by omega
  obtain ⟨X, hX⟩ : ∃ X, str (B6.encF f0 n0) (B6.encN n0) = X := ⟨_, rfl⟩
  obtain ⟨Y, hY⟩ : ∃ Y, str f0 n0 = Y := ⟨_, rfl⟩
  have hSX : St X (B6.encN n0) (B6.encF f0 n0) := by rw [← hX]; exact St.of (B6.encF_bd S0.out.bd _) _
  have hSY : St Y n0 f0 := by rw [← hY]; exact St.of S0.out.bd _
  have HX := hid hX
  have HY := hid hY
  have HSX := hid hSX
  have HSY := hid hSY
  have hXX : (X.toList == X.toList) = true := beq_self_eq_true _
  have hYY : (Y.toList == Y.toList) = true := beq_self_eq_true _
  clear hX hY hSX hSY
  go_enter Try.func3, Try.ntmps3
  go_wp2_with fail
  refine (b6encode_calls _ _ _ _ _ (by omega) S0.out).mono ?_
  rintro e w1 ⟨rfl, hb1⟩
  rw [HX.out]
  have B1 := hid hb1
  have S1 := hid (S0.out.below hb1)
  clear hb1
  go_wp2_with fail
  refine (b6decode_calls _ _ _ _ (by unfold B6.encN; omega) HSX.out).mono ?_
  rintro e w2 ⟨ho, hb2⟩
  have B2 := hid (B1.out.trans (hb2.mono B1.out.size))
  have S2 := hid (S1.out.below hb2)
  clear hb2
  obtain ⟨hgood, hdecn⟩ := B6.enc_good S0.out.bd n0
  rcases ho with ⟨_, a, c, rfl, hsl⟩ | ⟨p, hp, _⟩
  rotate_left
  · exact absurd hgood (B6.bad_not_good hp)
  rw [hdecn] at hsl ⊢
  have SL := hid hsl
  clear hsl hgood hdecn
  go_wp2_with fail
  refine (fixed03_calls _).mono ?_
  rintro e w3 ⟨rfl, hb3⟩
  have B3 := hid (B2.out.trans (hb3.mono B2.out.size))
  have S3 := hid (S2.out.below hb3)
  have SL3 := hid (SL.out.below hb3)
  clear hb3
  have cv := run_convert_sl (P := Try.prog) w3 22 5 9 Try.underlying22 Try.underlying5 Try.underlying9 S3.out
  have cv2 := run_convert_sl (P := Try.prog) w3 22 5 9 Try.underlying22 Try.underlying5 Try.underlying9 SL3.out
  rw [str_congr (g := f0) (fun i hi => B6.dec_enc S0.out.bd n0 i hi)] at cv2
  rw [HY.out] at cv cv2
  go_wp2_with fail
  refine (rencode_calls _ _ _ _ (by omega) HSY.out).mono ?_
  rintro e w3 ⟨rfl, rfl⟩
  rw [HX.out]
  go_wp2_with fail
  go_ret
  exact ⟨rfl, B3.out⟩
end Go.Proofs.Ytanccppmfgghgaa
