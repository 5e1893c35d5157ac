/-
  The walk of the law EncodeBytes.
-/
import Derived.Test.YtcjakjmhghoilaaEnFd
namespace Go.Proofs.Ytcjakjmhghoilaa
open Go.RowKit Go.Maps
set_option linter.unusedVariables false
open Pr (it)
set_option maxRecDepth 100000 in
set_option maxHeartbeats 12800000 in
theorem encodeBytes_calls {w : World} {a am az ba : Option Addr} {n c nm cm ns cs bn bc : Nat} {f : Nat → Int} {ts : Vc.Toks} {ms : List Mg4} {sp : Vc.Sps} (V : Vo w a n c am nm cm az ns cs ts ms sp) (S : Sl w ba bn bc f) :
    Calls Try.prog 5 #[.agg #[.slice a n c, .slice am nm cm, .slice az ns cs], .slice ba bn bc] w fun e w' => e = .returned (.bool true) ∧ Below w.heap.size w w' := by
  have hl := V.T.len
  have hlm := V.M.len
  have B0 := hid ((Below.refl w.heap.size w).alloc (Nat.le_refl _) (.cells #[.slice a n c, .slice am nm cm, .slice az ns cs] 26))
  have X0 := hid (Bx3.new w 26 (.slice a n c) (.slice am nm cm) (.slice az ns cs))
  have V0 := hid (V.below B0.out)
  have S0 := hid (S.below B0.out)
  clear V S
  have x0 := X0.out.cell0
  have x1 := X0.out.cell1
  have x2 := X0.out.cell2
  go_enter Try.func5, Try.ntmps5
  go_wp2_with fail
  refine (rgreat_calls V0.out).mono ?_
  rintro e w1 ⟨⟨g, rfl, hg⟩, b1⟩
  have X1 := hid (X0.out.below b1 X0.out.lt)
  have V1 := hid (V0.out.below b1)
  have S1 := hid (S0.out.below b1)
  have B1 := hid (B0.out.trans (b1.mono B0.out.size))
  have HG := hid hg
  clear hg b1 X0 V0 B0 S0 x0 x1 x2
  cases g
  rotate_left
  · skip
    go_wp2_with fail
    refine (efixed_calls _).mono ?_
    rintro e wf ⟨rfl, bf⟩
    have BF := hid (B1.out.trans (bf.mono B1.out.size))
    clear bf
    go_wp2_with fail
    go_ret
    exact ⟨rfl, BF.out⟩
  have HSm := hid (show Vc.Small ts ms sp from Classical.byContradiction fun h => absurd (HG.out.2 h) (by decide))
  have hnm : nm ≤ 1000000 := by have := HSm.out.m; omega
  clear HG
  have x0 := X1.out.cell0
  have x1 := X1.out.cell1
  have x2 := X1.out.cell2
  by_cases hbig : 500 < bn
  · have k1 : ((500 : Int) < (bn : Int)) := by omega
    go_wp2_with fail
    refine (efixed_calls _).mono ?_
    rintro e wf ⟨rfl, bf⟩
    have BF := hid (B1.out.trans (bf.mono B1.out.size))
    clear bf
    go_wp2_with fail
    go_ret
    exact ⟨rfl, BF.out⟩
  have k1 : ¬ ((500 : Int) < (bn : Int)) := by omega
  go_wp2_with fail
  refine (rmay_calls V1.out (fun i hi => Nat.le_trans (HSm.out.sz i hi) (by decide))).mono ?_
  rintro e w2 ⟨⟨g, rfl, hg⟩, b2⟩
  have X2 := hid (X1.out.below b2 X1.out.lt)
  have V2 := hid (V1.out.below b2)
  have S2 := hid (S1.out.below b2)
  have B2 := hid (B1.out.trans (b2.mono B1.out.size))
  have HG := hid hg
  clear hg b2 X1 V1 B1 S1 x0 x1 x2
  cases g
  · skip
    go_wp2_with fail
    refine (efixed_calls _).mono ?_
    rintro e wf ⟨rfl, bf⟩
    have BF := hid (B2.out.trans (bf.mono B2.out.size))
    clear bf
    go_wp2_with fail
    go_ret
    exact ⟨rfl, BF.out⟩
  have HM := hid (HG.out.1 rfl)
  clear HG
  have x0 := X2.out.cell0
  have x1 := X2.out.cell1
  have x2 := X2.out.cell2
  go_wp2_with fail
  refine (enew_calls V2.out (fun i hi => Nat.le_trans (HSm.out.tz i (by omega)) (by decide))).mono ?_
  rintro e w3 ⟨E3, b3⟩
  have X3 := hid (X2.out.below b3 X2.out.lt)
  have V3 := hid (V2.out.below b3)
  have S3 := hid (S2.out.below b3)
  have B3 := hid (B2.out.trans (b3.mono B2.out.size))
  clear b3 X2 V2 B2 S2 x0 x1 x2
  rcases E3 with ⟨_, B, rfl, hC⟩ | ⟨hM, _⟩
  rotate_left
  · exact absurd HM.out hM
  have C3 := hid hC
  clear hC
  have x0 := X3.out.cell0
  have x1 := X3.out.cell1
  have x2 := X3.out.cell2
  go_wp2_with fail
  refine (eenc_calls C3.out S3.out (by omega)).mono ?_
  rintro e w4 ⟨⟨a4, n4, c4, rfl, i4⟩, b4⟩
  have X4 := hid (X3.out.below b4 X3.out.lt)
  have V4 := hid (V3.out.below b4)
  have S4 := hid (S3.out.below b4)
  have B4 := hid (B3.out.trans (b4.mono B3.out.size))
  have I4 := hid i4
  have hlen := i4.len
  have hle := Pr.enc_len (ms := ms) (f := Vc.bt ts) (by_ (str f bn))
  rw [by_length, str_size, hlen] at hle
  have HT := hid (Pr.enc_cat HM.out.M (Vc.bytN_of HM.out.T) (by_ (str f bn)))
  clear b4 i4 hlen X3 V3 B3 S3 C3 x0 x1 x2
  have x0 := X4.out.cell0
  have x1 := X4.out.cell1
  have x2 := X4.out.cell2
  go_wp2_with fail
  refine (text_calls V4.out I4.out (fun i hi => Nat.le_trans (HSm.out.tz i (by omega)) (by decide)) (by omega)).mono ?_
  rintro e w5 ⟨E5, b5⟩
  have S5 := hid (S4.out.below b5)
  have B5 := hid (B4.out.trans (b5.mono B4.out.size))
  clear b5 X4 V4 B4 S4 I4 x0 x1 x2
  rcases E5 with ⟨_, s, rfl, hs⟩ | ⟨hno, _⟩
  rotate_left
  · exact absurd HT.out.1 hno
  have hs2 : s = str f bn := by_inj (hs.trans HT.out.2)
  obtain ⟨T, hT⟩ : ∃ T, str f bn = T := ⟨_, rfl⟩
  rw [hT] at hs2
  subst hs2
  have hTs : s.size = bn := by rw [← hT]; exact str_size f bn
  have HTT := hid hT
  clear hs hT HT
  go_wp2_with fail
  refine (efixed_calls _).mono ?_
  rintro e w6 ⟨rfl, b6⟩
  have S6 := hid (S5.out.below b6)
  have B6 := hid (B5.out.trans (b6.mono B5.out.size))
  clear b6 S5 B5
  have cv := run_convert_sl (P := Try.prog) w6 27 5 9 Try.underlying27 Try.underlying5 Try.underlying9 S6.out
  rw [HTT.out] at cv
  have k2 : (n4 : Int) ≤ bn := by omega
  go_wp2_with fail
  go_ret
  exact ⟨rfl, B6.out⟩
end Go.Proofs.Ytcjakjmhghoilaa
