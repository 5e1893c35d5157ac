/-
  The walk of the law PairRuns.
-/
import Derived.Test.YtfgbpjajkmfkoaaLotP
import Derived.Lib.QuietBelow
import Derived.Deep.QuietTactic
import Derived.BigQuiet
namespace Go.Proofs.Ytfgbpjajkmfkoaa
open Go.RowKit Go.Maps
set_option linter.unusedVariables false

set_option maxRecDepth 100000 in
set_option maxHeartbeats 12800000 in
theorem pairRuns_calls {w : World} {a am az ar : Option Addr} {n c nm cm ns cs m d : Nat} {ts : Vc.Toks} {ms : List Mg4} {sp : Vc.Sps} {xs : Pr.Row} (V : Vo w a n c am nm cm az ns cs ts ms sp) (R : Ir w ar m d xs) (F : Fits xs) :
    Calls Try.prog 5 #[.agg #[.slice a n c, .slice am nm cm, .slice az ns cs], .slice ar m d] w fun e w' => e = .returned (.bool true) ∧ Below w.heap.size w w' := by
  have hl := V.T.len
  have hlm := V.M.len
  have hls := V.S.len
  have B0 := hid ((Below.refl w.heap.size w).alloc (Nat.le_refl _) (.cells #[.slice a n c, .slice am nm cm, .slice az ns cs] 26))
  have X0 := hid (Bx3.new w 26 (.slice a n c) (.slice am nm cm) (.slice az ns cs))
  have V0 := hid (V.below B0.out)
  have R0 := hid (R.below B0.out)
  have hlr := R.len
  have FW := hid F
  clear V R F
  have x0 := X0.out.cell0
  have x1 := X0.out.cell1
  have x2 := X0.out.cell2
  go_enter Try.func5, Try.ntmps5
  go_wp2_with fail
  refine (great_calls V0.out).mono ?_
  rintro e w1 ⟨⟨g, rfl, hg⟩, b1⟩
  have X1 := hid (X0.out.below b1 X0.out.lt)
  have V1 := hid (V0.out.below b1)
  have R1 := hid (R0.out.below b1)
  have B1 := hid (B0.out.trans (b1.mono B0.out.size))
  have HG := hid hg
  clear hg b1 X0 V0 B0 R0 x0 x1 x2
  cases g
  rotate_left
  · skip
    go_wp2_with fail
    refine (fixed_calls _).mono ?_
    rintro e wf ⟨rfl, bf⟩
    have BF := hid (B1.out.trans (bf.mono B1.out.size))
    clear bf
    go_wp2_with fail
    go_ret
    exact ⟨rfl, BF.out⟩
  have HSm0 := hid (show Pr.Small ts ms sp m from Classical.byContradiction fun h => absurd (HG.out.2 h) (by decide))
  have HSm := hid HSm0.out.1
  have hm60 := HSm0.out.2
  clear HG HSm0
  have hnm : nm ≤ 1000000 := by have := HSm.out.m; omega
  have hm1 : m ≤ 1000000 := by omega
  have x0 := X1.out.cell0
  have x1 := X1.out.cell1
  have x2 := X1.out.cell2
  go_wp2_with fail
  refine (rmay_calls V1.out (fun i hi => Nat.le_trans (HSm.out.sz i hi) (by decide))).mono ?_
  rintro e w2 ⟨⟨g, rfl, hg⟩, b2⟩
  have X2 := hid (X1.out.below b2 X1.out.lt)
  have V2 := hid (V1.out.below b2)
  have R2 := hid (R1.out.below b2)
  have B2 := hid (B1.out.trans (b2.mono B1.out.size))
  have HG := hid hg
  clear hg b2 X1 V1 R1 B1 x0 x1 x2
  cases g
  · skip
    go_wp2_with fail
    refine (fixed_calls _).mono ?_
    rintro e wf ⟨rfl, bf⟩
    have BF := hid (B2.out.trans (bf.mono B2.out.size))
    clear bf
    go_wp2_with fail
    go_ret
    exact ⟨rfl, BF.out⟩
  have HM := hid (HG.out.1 rfl)
  clear HG
  have x0 := X2.out.cell0
  have x1 := X2.out.cell1
  have x2 := X2.out.cell2
  go_wp2_with fail
  refine (new_calls V2.out (fun i hi => Nat.le_trans (HSm.out.tz i (by omega)) (by decide))).mono ?_
  rintro e w3 ⟨E3, b3⟩
  have X3 := hid (X2.out.below b3 X2.out.lt)
  have V3 := hid (V2.out.below b3)
  have R3 := hid (R2.out.below b3)
  have B3 := hid (B2.out.trans (b3.mono B2.out.size))
  clear b3 X2 V2 R2 B2 x0 x1 x2
  rcases E3 with ⟨_, B, rfl, hT⟩ | ⟨hM, _⟩
  rotate_left
  · exact absurd HM.out hM
  have T3 := hid hT
  clear hT
  obtain ⟨i0, hi, hz0, hz1, hz2⟩ := info_parts Try.infoInt
  have C3 := hid ((Below.refl w3.heap.size w3).alloc (Nat.le_refl _) (.cells #[] 3))
  have S3 := hid (R3.out.below C3.out)
  have x0 := X3.out.cell0
  have x1 := X3.out.cell1
  have x2 := X3.out.cell2
  go_wp2_with (at_builtin; refine wpList_append_src rfl _ _ 39 rfl w3.heap.size 3 i0 (.int .i64 0) 1 8 Try.underlying39 hi hz0 hz1 hz2 rfl (by decide) _ 0 _ rfl (own_empty w3.heap.size rfl (Nat.le_refl _)) ar m d (iv xs) rfl S3.out.src (by unfold maxLen; omega) (by omega) (by simp) ?_; intro v4 w4 own gr loc; rw [Nat.zero_add, List.nil_append] at own; obtain ⟨a4, c4, rfl, I4'⟩ := Ir.ofOwn own; have O4 := hid I4'; have b4 := C3.out.grown gr (by simp) (fun g h => Nat.le_of_eq (Option.some.inj (show some w3.heap.size = some g from h))); have T4 := hid (T3.out.below b4); clear own gr loc I4')
  have X4 := hid (X3.out.below b4 X3.out.lt)
  have V4 := hid (V3.out.below b4)
  have R4 := hid (R3.out.below b4)
  have B4 := hid (B3.out.trans (b4.mono B3.out.size))
  clear b4 X3 V3 R3 B3
  clear C3 S3 T3 x0 x1 x2
  refine (run_calls T4.out O4.out FW.out (may_wf HM.out) hm1).mono ?_
  rintro e w5 ⟨⟨a5, m5, c5, rfl, I5⟩, b5⟩
  have E5 := hid I5
  clear I5
  have X5 := hid (X4.out.below b5 X4.out.lt)
  have V5 := hid (V4.out.below b5)
  have R5 := hid (R4.out.below b5)
  have B5 := hid (B4.out.trans (b5.mono B4.out.size))
  have T5 := hid (T4.out.below b5)
  have O5 := hid (O4.out.below b5)
  clear b5 X4 V4 R4 B4 T4 O4
  have hlen := E5.out.len
  have hle := Pr.run_len ms xs
  have hm5 : m5 ≤ 1000000 := by omega
  have FE := hid (show Fits (Pr.run ms xs) from fits_run (may_wf HM.out) FW.out)
  clear hlen hle
  go_wp2_with fail
  refine (step_calls T5.out E5.out FE.out hm5).mono ?_
  rintro e w6 ⟨Q6, b6⟩
  have X6 := hid (X5.out.below b6 X5.out.lt)
  have V6 := hid (V5.out.below b6)
  have R6 := hid (R5.out.below b6)
  have B6 := hid (B5.out.trans (b6.mono B5.out.size))
  have T6 := hid (T5.out.below b6)
  have O6 := hid (O5.out.below b6)
  have E6 := hid (E5.out.below b6)
  clear b6 X5 V5 R5 B5 T5 O5 E5
  rcases Q6 with ⟨_, sa, sc, rfl, _⟩ | ⟨ys, _, _, _, hs, _⟩
  rotate_left
  · rw [Pr.run_end] at hs; cases hs
  go_wp2_with fail
  refine (fixed_calls _).mono ?_
  rintro e w7 ⟨rfl, b7⟩
  have X7 := hid (X6.out.below b7 X6.out.lt)
  have V7 := hid (V6.out.below b7)
  have R7 := hid (R6.out.below b7)
  have B7 := hid (B6.out.trans (b7.mono B6.out.size))
  have T7 := hid (T6.out.below b7)
  have O7 := hid (O6.out.below b7)
  have E7 := hid (E6.out.below b7)
  clear b7 X6 V6 R6 B6 T6 O6 E6
  go_wp2_with fail
  refine (says_is (b := true) (same_calls O7.out R7.out) (by simp)).mono ?_
  rintro e w8 ⟨rfl, b8⟩
  have X8 := hid (X7.out.below b8 X7.out.lt)
  have V8 := hid (V7.out.below b8)
  have R8 := hid (R7.out.below b8)
  have B8 := hid (B7.out.trans (b8.mono B7.out.size))
  have T8 := hid (T7.out.below b8)
  have O8 := hid (O7.out.below b8)
  have E8 := hid (E7.out.below b8)
  clear b8 X7 V7 R7 B7 T7 O7 E7
  have x0 := X8.out.cell0
  have x1 := X8.out.cell1
  have x2 := X8.out.cell2
  go_wp2_with fail
  refine (rrun_calls V8.out R8.out hnm hm1).mono ?_
  rintro e w9 ⟨⟨a9, m9, c9, rfl, I9⟩, b9⟩
  have G9 := hid I9
  clear I9 x0 x1 x2
  have X9 := hid (X8.out.below b9 X8.out.lt)
  have V9 := hid (V8.out.below b9)
  have R9 := hid (R8.out.below b9)
  have B9 := hid (B8.out.trans (b9.mono B8.out.size))
  have T9 := hid (T8.out.below b9)
  have O9 := hid (O8.out.below b9)
  have E9 := hid (E8.out.below b9)
  clear b9 X8 V8 R8 B8 T8 O8 E8
  go_wp2_with fail
  refine (says_is (b := true) (same_calls E9.out G9.out) (by simp)).mono ?_
  rintro e w10 ⟨rfl, b10⟩
  clear G9
  have X10 := hid (X9.out.below b10 X9.out.lt)
  have V10 := hid (V9.out.below b10)
  have R10 := hid (R9.out.below b10)
  have B10 := hid (B9.out.trans (b10.mono B9.out.size))
  have T10 := hid (T9.out.below b10)
  have O10 := hid (O9.out.below b10)
  have E10 := hid (E9.out.below b10)
  clear b10 X9 V9 R9 B9 T9 O9 E9
  go_wp2_with fail
  refine (run_calls T10.out E10.out FE.out (may_wf HM.out) hm5).mono ?_
  rintro e w11 ⟨⟨a11, m11, c11, rfl, I11⟩, b11⟩
  have G11 := hid I11
  clear I11
  have X11 := hid (X10.out.below b11 X10.out.lt)
  have V11 := hid (V10.out.below b11)
  have R11 := hid (R10.out.below b11)
  have B11 := hid (B10.out.trans (b11.mono B10.out.size))
  have T11 := hid (T10.out.below b11)
  have O11 := hid (O10.out.below b11)
  have E11 := hid (E10.out.below b11)
  clear b11 X10 V10 R10 B10 T10 O10 E10
  go_wp2_with fail
  refine (says_is (b := true) (same_calls G11.out E11.out) (by simp [Pr.run_run])).mono ?_
  rintro e w12 ⟨rfl, b12⟩
  clear G11
  have X12 := hid (X11.out.below b12 X11.out.lt)
  have V12 := hid (V11.out.below b12)
  have R12 := hid (R11.out.below b12)
  have B12 := hid (B11.out.trans (b12.mono B11.out.size))
  have T12 := hid (T11.out.below b12)
  have O12 := hid (O11.out.below b12)
  have E12 := hid (E11.out.below b12)
  clear b12 X11 V11 R11 B11 T11 O11 E11
  go_wp2_with fail
  go_ret
  exact ⟨rfl, B12.out⟩
end Go.Proofs.Ytfgbpjajkmfkoaa
