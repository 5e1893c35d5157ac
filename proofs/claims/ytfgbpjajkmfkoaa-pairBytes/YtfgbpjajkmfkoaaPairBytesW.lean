/-
  The walk of the law PairBytes.
-/
import Derived.Test.YtfgbpjajkmfkoaaLotP
import Derived.Lib.QuietBelow
import Derived.Deep.QuietTactic
import Derived.BigQuiet
namespace Go.Proofs.Ytfgbpjajkmfkoaa
open Go.RowKit Go.Maps
set_option linter.unusedVariables false

set_option maxRecDepth 100000 in
set_option maxHeartbeats 12800000 in
theorem pairBytes_calls {w : World} {a am az ar : Option Addr} {n c nm cm ns cs m d : Nat} {ts : Vc.Toks} {ms : List Mg4} {sp : Vc.Sps} {xs : Pr.Row} (V : Vo w a n c am nm cm az ns cs ts ms sp) (R : Ir w ar m d xs) (F : Fits xs) :
    Calls Try.prog 6 #[.agg #[.slice a n c, .slice am nm cm, .slice az ns cs], .slice ar m d] w fun e w' => e = .returned (.bool true) ∧ Below w.heap.size w w' := by
  have hl := V.T.len
  have hlm := V.M.len
  have hls := V.S.len
  have B0 := hid ((Below.refl w.heap.size w).alloc (Nat.le_refl _) (.cells #[.slice a n c, .slice am nm cm, .slice az ns cs] 26))
  have X0 := hid (Bx3.new w 26 (.slice a n c) (.slice am nm cm) (.slice az ns cs))
  have V0 := hid (V.below B0.out)
  have R0 := hid (R.below B0.out)
  have hlr := R.len
  have FW := hid F
  clear V R F
  have x0 := X0.out.cell0
  have x1 := X0.out.cell1
  have x2 := X0.out.cell2
  go_enter Try.func6, Try.ntmps6
  go_wp2_with fail
  refine (great_calls V0.out).mono ?_
  rintro e w1 ⟨⟨g, rfl, hg⟩, b1⟩
  have X1 := hid (X0.out.below b1 X0.out.lt)
  have V1 := hid (V0.out.below b1)
  have R1 := hid (R0.out.below b1)
  have B1 := hid (B0.out.trans (b1.mono B0.out.size))
  have HG := hid hg
  clear hg b1 X0 V0 B0 R0 x0 x1 x2
  cases g
  rotate_left
  · skip
    go_wp2_with fail
    refine (fixed_calls _).mono ?_
    rintro e wf ⟨rfl, bf⟩
    have BF := hid (B1.out.trans (bf.mono B1.out.size))
    clear bf
    go_wp2_with fail
    go_ret
    exact ⟨rfl, BF.out⟩
  have HSm0 := hid (show Pr.Small ts ms sp m from Classical.byContradiction fun h => absurd (HG.out.2 h) (by decide))
  have HSm := hid HSm0.out.1
  have hm60 := HSm0.out.2
  clear HG HSm0
  have hnm : nm ≤ 1000000 := by have := HSm.out.m; omega
  have hm1 : m ≤ 1000000 := by omega
  have x0 := X1.out.cell0
  have x1 := X1.out.cell1
  have x2 := X1.out.cell2
  go_wp2_with fail
  refine (rmay_calls V1.out (fun i hi => Nat.le_trans (HSm.out.sz i hi) (by decide))).mono ?_
  rintro e w2 ⟨⟨g, rfl, hg⟩, b2⟩
  have X2 := hid (X1.out.below b2 X1.out.lt)
  have V2 := hid (V1.out.below b2)
  have R2 := hid (R1.out.below b2)
  have B2 := hid (B1.out.trans (b2.mono B1.out.size))
  have HG := hid hg
  clear hg b2 X1 V1 R1 B1 x0 x1 x2
  cases g
  · skip
    go_wp2_with fail
    refine (fixed_calls _).mono ?_
    rintro e wf ⟨rfl, bf⟩
    have BF := hid (B2.out.trans (bf.mono B2.out.size))
    clear bf
    go_wp2_with fail
    go_ret
    exact ⟨rfl, BF.out⟩
  have HM := hid (HG.out.1 rfl)
  clear HG
  have x0 := X2.out.cell0
  have x1 := X2.out.cell1
  have x2 := X2.out.cell2
  have htz : ∀ i, i < n → (at_ ts i).size ≤ 1000000 := fun i hi => Nat.le_trans (HSm.out.tz i (by omega)) (by decide)
  have HTz := hid htz
  clear htz
  go_wp2_with fail
  refine (text_calls V2.out R2.out HTz.out hm1).mono ?_
  rintro e w3 ⟨E3, b3⟩
  clear x0 x1 x2
  have X3 := hid (X2.out.below b3 X2.out.lt)
  have V3 := hid (V2.out.below b3)
  have R3 := hid (R2.out.below b3)
  have B3 := hid (B2.out.trans (b3.mono B2.out.size))
  clear b3 X2 V2 R2 B2
  rcases E3 with ⟨hK, s, rfl, hs⟩ | ⟨_, rfl⟩
  rotate_left
  · skip
    go_wp2_with fail
    refine (fixed_calls _).mono ?_
    rintro e wf ⟨rfl, bf⟩
    have BF := hid (B3.out.trans (bf.mono B3.out.size))
    clear bf
    go_wp2_with fail
    go_ret
    exact ⟨rfl, BF.out⟩
  have HK := hid hK
  have HS := hid hs
  clear hK hs
  have x0 := X3.out.cell0
  have x1 := X3.out.cell1
  have x2 := X3.out.cell2
  go_wp2_with fail
  refine (new_calls V3.out (fun i hi => Nat.le_trans (HSm.out.tz i (by omega)) (by decide))).mono ?_
  rintro e w4 ⟨E4, b4⟩
  have X4 := hid (X3.out.below b4 X3.out.lt)
  have V4 := hid (V3.out.below b4)
  have R4 := hid (R3.out.below b4)
  have B4 := hid (B3.out.trans (b4.mono B3.out.size))
  clear b4 X3 V3 R3 B3 x0 x1 x2
  rcases E4 with ⟨_, B, rfl, hT⟩ | ⟨hM, _⟩
  rotate_left
  · exact absurd HM.out hM
  have T4 := hid hT
  clear hT
  go_wp2_with fail
  refine (run_calls T4.out R4.out FW.out (may_wf HM.out) hm1).mono ?_
  rintro e w5 ⟨⟨a5, m5, c5, rfl, I5⟩, b5⟩
  have E5 := hid I5
  clear I5
  have X5 := hid (X4.out.below b5 X4.out.lt)
  have V5 := hid (V4.out.below b5)
  have R5 := hid (R4.out.below b5)
  have B5 := hid (B4.out.trans (b5.mono B4.out.size))
  have T5 := hid (T4.out.below b5)
  clear b5 X4 V4 R4 B4 T4
  have hlen := E5.out.len
  have hle := Pr.run_len ms xs
  have hm5 : m5 ≤ 1000000 := by omega
  have hmm : (m5 : Int) ≤ m := by omega
  obtain ⟨hK2, hC2⟩ := Pr.run_cat HM.out.M HK.out
  have HK2 := hid hK2
  have HC2 := hid hC2
  clear hlen hle hK2 hC2
  have x0 := X5.out.cell0
  have x1 := X5.out.cell1
  have x2 := X5.out.cell2
  go_wp2_with fail
  refine (text_calls V5.out E5.out HTz.out hm5).mono ?_
  rintro e w6 ⟨Q6, b6⟩
  clear x0 x1 x2
  have X6 := hid (X5.out.below b6 X5.out.lt)
  have V6 := hid (V5.out.below b6)
  have R6 := hid (R5.out.below b6)
  have B6 := hid (B5.out.trans (b6.mono B5.out.size))
  have T6 := hid (T5.out.below b6)
  have E6 := hid (E5.out.below b6)
  clear b6 X5 V5 R5 B5 T5 E5
  rcases Q6 with ⟨_, s2, rfl, hs2⟩ | ⟨h, _⟩
  rotate_left
  · exact absurd HK2.out h
  have hss : s2 = s := by_inj (by rw [hs2, HC2.out, HS.out])
  subst hss
  clear hs2
  have ss : (s2.toList == s2.toList) = true := beq_self_eq_true _
  go_wp2_with fail
  refine (step_calls T6.out R6.out FW.out hm1).mono ?_
  rintro e w7 ⟨Q7, b7⟩
  have X7 := hid (X6.out.below b7 X6.out.lt)
  have V7 := hid (V6.out.below b7)
  have R7 := hid (R6.out.below b7)
  have B7 := hid (B6.out.trans (b7.mono B6.out.size))
  have T7 := hid (T6.out.below b7)
  have E7 := hid (E6.out.below b7)
  clear b7 X6 V6 R6 B6 T6 E6
  have x0 := X7.out.cell0
  have x1 := X7.out.cell1
  have x2 := X7.out.cell2
  rcases Q7 with ⟨_, sa, sc, rfl, hI⟩ | ⟨ys, sa, sm, sc, hst, rfl, hI⟩
  · have N7 := hid hI
    clear hI
    go_wp2_with fail
    refine (text_calls V7.out N7.out HTz.out (by omega)).mono ?_
    rintro e w8 ⟨Q8, b8⟩
    clear x0 x1 x2
    have X8 := hid (X7.out.below b8 X7.out.lt)
    have V8 := hid (V7.out.below b8)
    have R8 := hid (R7.out.below b8)
    have B8 := hid (B7.out.trans (b8.mono B7.out.size))
    have T8 := hid (T7.out.below b8)
    have E8 := hid (E7.out.below b8)
    have N8 := hid (N7.out.below b8)
    clear b8 X7 V7 R7 B7 T7 E7 N7
    rcases Q8 with ⟨_, s3, rfl, _⟩ | ⟨h, _⟩
    rotate_left
    · exact absurd (fun x hx => by cases hx) h
    go_wp2_with fail
    refine (fixed_calls _).mono ?_
    rintro e w9 ⟨rfl, b9⟩
    have X9 := hid (X8.out.below b9 X8.out.lt)
    have V9 := hid (V8.out.below b9)
    have R9 := hid (R8.out.below b9)
    have B9 := hid (B8.out.trans (b9.mono B8.out.size))
    have T9 := hid (T8.out.below b9)
    have E9 := hid (E8.out.below b9)
    have N9 := hid (N8.out.below b9)
    clear b9 X8 V8 R8 B8 T8 E8 N8
    go_wp2_with fail
    go_ret
    exact ⟨rfl, B9.out⟩
  · have N7 := hid hI
    have hsl := Pr.step_len hst
    have hyl := hI.len
    obtain ⟨hK3, hC3⟩ := Pr.step_cat HM.out.M HK.out hst
    have HK3 := hid hK3
    have HC3 := hid hC3
    have hsm : sm ≤ 1000000 := by omega
    have hw1 : IntKind.i64.wrap ((m : Int) - 1) = (sm : Int) := by rw [i64_in (by omega) (by omega)]; omega
    clear hI hK3 hC3 hst hsl hyl
    go_wp2_with fail
    refine (text_calls V7.out N7.out HTz.out hsm).mono ?_
    rintro e w8 ⟨Q8, b8⟩
    clear x0 x1 x2
    have X8 := hid (X7.out.below b8 X7.out.lt)
    have V8 := hid (V7.out.below b8)
    have R8 := hid (R7.out.below b8)
    have B8 := hid (B7.out.trans (b8.mono B7.out.size))
    have T8 := hid (T7.out.below b8)
    have E8 := hid (E7.out.below b8)
    have N8 := hid (N7.out.below b8)
    clear b8 X7 V7 R7 B7 T7 E7 N7
    rcases Q8 with ⟨_, s3, rfl, hs3⟩ | ⟨h, _⟩
    rotate_left
    · exact absurd HK3.out h
    have hss : s3 = s2 := by_inj (by rw [hs3, HC3.out, HS.out])
    subst hss
    clear hs3
    go_wp2_with fail
    refine (fixed_calls _).mono ?_
    rintro e w9 ⟨rfl, b9⟩
    have X9 := hid (X8.out.below b9 X8.out.lt)
    have V9 := hid (V8.out.below b9)
    have R9 := hid (R8.out.below b9)
    have B9 := hid (B8.out.trans (b9.mono B8.out.size))
    have T9 := hid (T8.out.below b9)
    have E9 := hid (E8.out.below b9)
    have N9 := hid (N8.out.below b9)
    clear b9 X8 V8 R8 B8 T8 E8 N8
    go_wp2_with fail
    go_ret
    exact ⟨rfl, B9.out⟩
end Go.Proofs.Ytfgbpjajkmfkoaa
