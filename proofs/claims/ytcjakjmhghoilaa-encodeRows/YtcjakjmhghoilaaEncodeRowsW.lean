/-
  The walk of the law EncodeRows.
-/
import Derived.Test.YtcjakjmhghoilaaEnFd
import Derived.Deep.RegionHeld3
namespace Go.Proofs.Ytcjakjmhghoilaa
open Go.RowKit Go.Maps
set_option linter.unusedVariables false
open Pr (it)
/-- A vocabulary's cells, and bytes as a text, in every world in which old memory is as it was. -/
theorem keep_row {w : World} {k : Nat} {x y z : Value} (X : Bx3 w k 26 x y z) {a : Option Addr} {n c : Nat} {f : Nat → Int} (h : Sl w a n c f) {T : ByteArray} (hT : str f n = T) {w' : World} (hb : Below w.heap.size w w') :
    (convert 27 9 (.slice a n c)).run Try.prog w' = .ok (.string T) w' ∧ w'.cell? ⟨k, 0, none⟩ = some x ∧ w'.cell? ⟨k, 1, none⟩ = some y ∧ w'.cell? ⟨k, 2, none⟩ = some z := by
  have X' := X.below hb X.lt
  refine ⟨?_, X'.cell0, X'.cell1, X'.cell2⟩
  rw [← hT]
  exact run_convert_sl (P := Try.prog) w' 27 5 9 Try.underlying27 Try.underlying5 Try.underlying9 (h.below hb)
set_option maxRecDepth 100000 in
set_option maxHeartbeats 12800000 in
theorem encodeRows_calls {w : World} {a am az ba : Option Addr} {n c nm cm ns cs bn bc : Nat} {f : Nat → Int} {ts : Vc.Toks} {ms : List Mg4} {sp : Vc.Sps} (V : Vo w a n c am nm cm az ns cs ts ms sp) (S : Sl w ba bn bc f) :
    Calls Try.prog 3 #[.agg #[.slice a n c, .slice am nm cm, .slice az ns cs], .slice ba bn bc] w fun e w' => e = .returned (.bool true) ∧ Below w.heap.size w w' := by
  have hl := V.T.len
  have hlm := V.M.len
  have B0 := hid ((Below.refl w.heap.size w).alloc (Nat.le_refl _) (.cells #[.slice a n c, .slice am nm cm, .slice az ns cs] 26))
  have X0 := hid (Bx3.new w 26 (.slice a n c) (.slice am nm cm) (.slice az ns cs))
  have V0 := hid (V.below B0.out)
  have S0 := hid (S.below B0.out)
  clear V S
  have x0 := X0.out.cell0
  have x1 := X0.out.cell1
  have x2 := X0.out.cell2
  go_enter Try.func3, Try.ntmps3
  go_wp2_with fail
  refine (egreat_calls V0.out).mono ?_
  rintro e w1 ⟨⟨g, rfl, hg⟩, b1⟩
  have X1 := hid (X0.out.below b1 X0.out.lt)
  have V1 := hid (V0.out.below b1)
  have S1 := hid (S0.out.below b1)
  have B1 := hid (B0.out.trans (b1.mono B0.out.size))
  have HG := hid hg
  clear hg b1 X0 V0 B0 S0 x0 x1 x2
  cases g
  rotate_left
  · skip
    go_wp2_with fail
    refine (efixed_calls _).mono ?_
    rintro e wf ⟨rfl, bf⟩
    have BF := hid (B1.out.trans (bf.mono B1.out.size))
    clear bf
    go_wp2_with fail
    go_ret
    exact ⟨rfl, BF.out⟩
  have HSm0 := hid (show Pr.SmallE ts ms sp bn from Classical.byContradiction fun h => absurd (HG.out.2 h) (by decide))
  have HSm := hid HSm0.out.1
  have hb60 := HSm0.out.2
  have hnm : nm ≤ 1000000 := by have := HSm.out.m; omega
  clear HG HSm0
  have x0 := X1.out.cell0
  have x1 := X1.out.cell1
  have x2 := X1.out.cell2
  go_wp2_with fail
  refine (enew_calls V1.out (fun i hi => Nat.le_trans (HSm.out.tz i (by omega)) (by decide))).mono ?_
  rintro e w2 ⟨E2, b2⟩
  have X2 := hid (X1.out.below b2 X1.out.lt)
  have V2 := hid (V1.out.below b2)
  have S2 := hid (S1.out.below b2)
  have B2 := hid (B1.out.trans (b2.mono B1.out.size))
  clear b2 X1 V1 B1 S1 x0 x1 x2
  have x0 := X2.out.cell0
  have x1 := X2.out.cell1
  have x2 := X2.out.cell2
  rcases E2 with ⟨hM, B, rfl, hC⟩ | ⟨hM, rfl⟩
  · have HM := hid hM
    have C2 := hid hC
    clear hM hC
    go_wp2_with fail
    refine (says_is (b := true) (rmay_calls V2.out (fun i hi => Nat.le_trans (HSm.out.sz i hi) (by decide))) (by simp [HM.out])).mono ?_
    rintro e w3 ⟨rfl, b3⟩
    have X3 := hid (X2.out.below b3 X2.out.lt)
    have V3 := hid (V2.out.below b3)
    have S3 := hid (S2.out.below b3)
    have C3 := hid (C2.out.below b3)
    have B3 := hid (B2.out.trans (b3.mono B2.out.size))
    clear b3 X2 V2 B2 S2 C2 x0 x1 x2
    obtain ⟨T, hT⟩ : ∃ T, str f bn = T := ⟨_, rfl⟩
    have hTs : T.size = bn := by rw [← hT]; exact str_size f bn
    have HT := hid hT
    clear hT
    have D0 := hid ((Below.refl w3.heap.size w3).drew)
    go_wp2_with fail
    go_region_held3 (fun w' => (convert 27 9 (.slice ba bn bc)).run Try.prog w' = .ok (.string T) w' ∧ w'.cell? ⟨w.heap.size, 0, none⟩ = some (.slice a n c) ∧ w'.cell? ⟨w.heap.size, 1, none⟩ = some (.slice am nm cm) ∧ w'.cell? ⟨w.heap.size, 2, none⟩ = some (.slice az ns cs)) (first | exact keep_row X3.out S3.out HT.out D0.out | exact keep_row X3.out S3.out HT.out D1.out | exact keep_row X3.out S3.out HT.out D2.out | exact keep_row X3.out S3.out HT.out D3.out | exact keep_row X3.out S3.out HT.out D4.out) (first | (go_at_call 10; refine (efixed_calls _).mono ?_; rintro e w4 ⟨rfl, hb1⟩; have D1 := hid (D0.out.trans hb1); clear hb1) | (go_at_call 14; refine (eenc_calls (C3.out.below D1.out) (S3.out.below D1.out) (by omega)).mono ?_; rintro e w5 ⟨⟨a5, n5, c5, rfl, i5⟩, b5⟩; have D2 := hid (D1.out.trans (b5.mono D1.out.size)); have I5 := hid i5; clear b5 i5) | (go_at_call 15; refine (rencode_calls (V3.out.below D2.out) HM.out.T hnm T (by omega)).mono ?_; rintro e w6 ⟨⟨a6, n6, c6, rfl, i6⟩, b6⟩; have D3 := hid (D2.out.trans (b6.mono D2.out.size)); have I6 := hid i6; have I56 := hid (I5.out.below b6); clear b6 i6; rw [HT.out] at I56) | (go_at_call 13; refine (says_is (b := true) (same_calls I56.out I6.out) (by simp)).mono ?_; rintro e w7 ⟨rfl, b7⟩; have D4 := hid (D3.out.trans (b7.mono D3.out.size)); clear b7))
    have BF := hid (B3.out.trans (D4.out.mono B3.out.size))
    go_wp2_with fail
    go_ret
    exact ⟨rfl, BF.out⟩
  · have HM := hid hM
    clear hM
    go_wp2_with fail
    refine (says_is (b := false) (rmay_calls V2.out (fun i hi => Nat.le_trans (HSm.out.sz i hi) (by decide))) (by simp [HM.out])).mono ?_
    rintro e w3 ⟨rfl, b3⟩
    have B3 := hid (B2.out.trans (b3.mono B2.out.size))
    clear b3 X2 V2 B2 S2 x0 x1 x2
    go_wp2_with fail
    refine (efixed_calls _).mono ?_
    rintro e wf ⟨rfl, bf⟩
    have BF := hid (B3.out.trans (bf.mono B3.out.size))
    clear bf
    go_wp2_with fail
    go_ret
    exact ⟨rfl, BF.out⟩
end Go.Proofs.Ytcjakjmhghoilaa
