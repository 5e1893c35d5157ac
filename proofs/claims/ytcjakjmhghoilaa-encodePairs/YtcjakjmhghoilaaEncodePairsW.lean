/-
  The walk of the law EncodePairs.
-/
import Derived.Test.YtcjakjmhghoilaaEnFd
import Derived.Test.YtcjakjmhghoilaaEnL
namespace Go.Proofs.Ytcjakjmhghoilaa
open Go.RowKit Go.Maps
set_option linter.unusedVariables false
open Pr (it)
set_option maxRecDepth 100000 in
set_option maxHeartbeats 12800000 in
theorem encodePairs_calls {w : World} {a am az ba : Option Addr} {n c nm cm ns cs bn bc : Nat} {f : Nat → Int} {ts : Vc.Toks} {ms : List Mg4} {sp : Vc.Sps} (V : Vo w a n c am nm cm az ns cs ts ms sp) (S : Sl w ba bn bc f) :
    Calls Try.prog 4 #[.agg #[.slice a n c, .slice am nm cm, .slice az ns cs], .slice ba bn bc] w fun e w' => e = .returned (.bool true) ∧ Below w.heap.size w w' := by
  have hl := V.T.len
  have hlm := V.M.len
  have B0 := hid ((Below.refl w.heap.size w).alloc (Nat.le_refl _) (.cells #[.slice a n c, .slice am nm cm, .slice az ns cs] 26))
  have X0 := hid (Bx3.new w 26 (.slice a n c) (.slice am nm cm) (.slice az ns cs))
  have V0 := hid (V.below B0.out)
  have S0 := hid (S.below B0.out)
  clear V S
  have x0 := X0.out.cell0
  have x1 := X0.out.cell1
  have x2 := X0.out.cell2
  go_enter Try.func4, Try.ntmps4
  go_wp2_with fail
  refine (rgreat_calls V0.out).mono ?_
  rintro e w1 ⟨⟨g, rfl, hg⟩, b1⟩
  have X1 := hid (X0.out.below b1 X0.out.lt)
  have V1 := hid (V0.out.below b1)
  have S1 := hid (S0.out.below b1)
  have B1 := hid (B0.out.trans (b1.mono B0.out.size))
  have HG := hid hg
  clear hg b1 X0 V0 B0 S0 x0 x1 x2
  cases g
  rotate_left
  · skip
    go_wp2_with fail
    refine (efixed_calls _).mono ?_
    rintro e wf ⟨rfl, bf⟩
    have BF := hid (B1.out.trans (bf.mono B1.out.size))
    clear bf
    go_wp2_with fail
    go_ret
    exact ⟨rfl, BF.out⟩
  have HSm := hid (show Vc.Small ts ms sp from Classical.byContradiction fun h => absurd (HG.out.2 h) (by decide))
  have hnm : nm ≤ 1000000 := by have := HSm.out.m; omega
  clear HG
  have x0 := X1.out.cell0
  have x1 := X1.out.cell1
  have x2 := X1.out.cell2
  by_cases hbig : 200 < bn
  · have k1 : ((200 : Int) < (bn : Int)) := by omega
    go_wp2_with fail
    refine (efixed_calls _).mono ?_
    rintro e wf ⟨rfl, bf⟩
    have BF := hid (B1.out.trans (bf.mono B1.out.size))
    clear bf
    go_wp2_with fail
    go_ret
    exact ⟨rfl, BF.out⟩
  have k1 : ¬ ((200 : Int) < (bn : Int)) := by omega
  go_wp2_with fail
  refine (rmay_calls V1.out (fun i hi => Nat.le_trans (HSm.out.sz i hi) (by decide))).mono ?_
  rintro e w2 ⟨⟨g, rfl, hg⟩, b2⟩
  have X2 := hid (X1.out.below b2 X1.out.lt)
  have V2 := hid (V1.out.below b2)
  have S2 := hid (S1.out.below b2)
  have B2 := hid (B1.out.trans (b2.mono B1.out.size))
  have HG := hid hg
  clear hg b2 X1 V1 B1 S1 x0 x1 x2
  cases g
  · skip
    go_wp2_with fail
    refine (efixed_calls _).mono ?_
    rintro e wf ⟨rfl, bf⟩
    have BF := hid (B2.out.trans (bf.mono B2.out.size))
    clear bf
    go_wp2_with fail
    go_ret
    exact ⟨rfl, BF.out⟩
  have HM := hid (HG.out.1 rfl)
  clear HG
  have x0 := X2.out.cell0
  have x1 := X2.out.cell1
  have x2 := X2.out.cell2
  go_wp2_with fail
  refine (enew_calls V2.out (fun i hi => Nat.le_trans (HSm.out.tz i (by omega)) (by decide))).mono ?_
  rintro e w3 ⟨E3, b3⟩
  have X3 := hid (X2.out.below b3 X2.out.lt)
  have V3 := hid (V2.out.below b3)
  have S3 := hid (S2.out.below b3)
  have B3 := hid (B2.out.trans (b3.mono B2.out.size))
  clear b3 X2 V2 B2 S2 x0 x1 x2
  rcases E3 with ⟨_, B, rfl, hC⟩ | ⟨hM, _⟩
  rotate_left
  · exact absurd HM.out hM
  have C3 := hid hC
  clear hC
  have x0 := X3.out.cell0
  have x1 := X3.out.cell1
  have x2 := X3.out.cell2
  go_wp2_with fail
  refine (new_calls V3.out (fun i hi => Nat.le_trans (HSm.out.tz i (by omega)) (by decide))).mono ?_
  rintro e w4 ⟨E4, b4⟩
  have X4 := hid (X3.out.below b4 X3.out.lt)
  have V4 := hid (V3.out.below b4)
  have S4 := hid (S3.out.below b4)
  have C4 := hid (C3.out.below b4)
  have B4 := hid (B3.out.trans (b4.mono B3.out.size))
  clear b4 X3 V3 B3 S3 C3 x0 x1 x2
  rcases E4 with ⟨_, D, rfl, hD⟩ | ⟨hM, _⟩
  rotate_left
  · exact absurd HM.out hM
  have D4 := hid hD
  clear hD
  obtain ⟨i0, hi, hz0, hz1, hz2⟩ := info_parts Try.infoInt
  obtain ⟨s, hs⟩ : ∃ s, by_ (str f bn) = s := ⟨_, rfl⟩
  have HS := hid hs
  have O4 := hid (World.ownsRow_nil w4 w4.heap.size 3 1)
  have R4 := hid (Below.refl w4.heap.size w4)
  clear hs
  go_wp2_with fail
  go_loopg [9, 36] bn (fun r rv kv wr => ∃ (j : Nat) (v : Value), r = bn - j ∧ v = rv ∧ kv = .int .i64 (j : Int) ∧ j ≤ bn ∧ Hid (wr.ownsRow w4.heap.size 3 1 v j (iv (rowTo ts s j))) ∧ Hid (Below w4.heap.size w4 wr))
  case atStart => exact ⟨0, _, rfl, rfl, rfl, by omega, O4, R4⟩
  case round =>
    clear O4 R4
    obtain ⟨j, v, rfl, rfl, rfl, hj, HO, HB⟩ := hrel
    have VR := hid (V4.out.below HB.out)
    have XR := hid (X4.out.below HB.out X4.out.lt)
    have SR := hid (S4.out.below HB.out)
    have sz := HB.out.size
    by_cases hlt : j < bn
    · have l0 : (0 : Int) ≤ j := by omega
      have l1 : (j : Int) < bn := by omega
      have l2 : IntKind.i64.wrap ((j : Int) + 1) = j + 1 := i64_in (by omega) (by omega)
      have l3 : (j : Int) ≤ j + 1 := by omega
      have hcap := SR.out.le
      have l4 : (j : Int) + 1 ≤ bc := by omega
      have l5 : (0 : Int) ≤ (j : Int) + 1 := by omega
      have l6 : ¬ bc = j := by omega
      obtain ⟨bb, bo, rfl, _, _⟩ := SR.out.at' (by omega)
      have S1' := (SR.out.cut j hlt).first 1 (by omega)
      have cv := run_convert_sl (P := Try.prog) wr.drew 27 5 9 Try.underlying27 Try.underlying5 Try.underlying9 (S1'.below (Below.refl _ wr).drew)
      rw [str_one, Nat.add_zero] at cv
      obtain ⟨b, hb⟩ : ∃ b, UInt8.ofNat (f j).toNat = b := ⟨_, rfl⟩
      have hb2 : s[j]? = some b := by rw [← HS.out, ← hb]; exact by_str_at hlt
      rw [hb] at cv
      have hof := rofZ_calls (VR.out.below (Below.refl _ wr).drew).T HM.out.T (mk [b])
      rw [ofZ_bt] at hof
      obtain ⟨T1, hT1⟩ : ∃ T1, mk [b] = T1 := ⟨_, rfl⟩
      rw [hT1] at hof cv
      obtain ⟨y, hy⟩ : ∃ y, Vc.bt ts b = y := ⟨_, rfl⟩
      rw [hy] at hof
      have HOF := hid hof
      have HR := hid (show rowTo ts s (j + 1) = rowTo ts s j ++ [y] from by rw [rowTo_succ hb2, hy])
      have c0 := XR.out.cell0
      clear hof hy hb hb2 hT1 S1'
      go_wp2_with fail
      go_region_law (first
        | (refine step_call (R := fun w' => w' = wr.drew) (by rfl) 18 _ _ (by rfl) #[.slice a n c, .string T1] (by rfl) (by kernel_rfl) (.int .i64 y) HOF.out ?_; rintro w2 rfl)
        | (refine step_append_src (by rfl) _ _ 36 (by rfl) w4.heap.size 3 i0 _ 1 8 Try.underlying36 hi hz0 hz1 hz2 rfl (by decide) v j (iv (rowTo ts s j)) (by rfl) ((HO.out.drew).alloc _) (some ⟨wr.heap.size, 0, none⟩) 1 1 [.int .i64 y] (by rfl) (Src.new (w := wr.drew) (m := 1) (size := 1) #[.int .i64 y] 3 wr.heap.size rfl rfl (fun u hu => by simp at hu; subst hu; rfl)) (by unfold maxLen; omega) (by omega) (by simp; omega) ?_; intro v4 w5 ho4 hg4 hb4))
      all_goals
        have O5 := hid (show w5.ownsRow w4.heap.size 3 1 v4 (j + 1) (iv (rowTo ts s (j + 1))) from by rw [HR.out, ← iv_append]; exact ho4)
        have B5 := hid (((HB.out.drew).alloc sz (.cells #[.int .i64 y] 3)).grown hg4 (by simp; omega) (fun k e => (HO.out.lt k e).1))
        clear ho4 hg4 hb4
        go_wp2_with fail
        go_roundg (bn - (j + 1))
        case measure => omega
        case rel => exact ⟨j + 1, v4, rfl, rfl, by go_num, by omega, O5, B5⟩
    · have l1 : ¬ (j : Int) < bn := by omega
      obtain rfl : j = bn := by omega
      obtain ⟨ao, co, rfl, hI⟩ := Ir.ofOwn HO.out
      have I5 := hid hI
      have hlen := hI.len
      have FE := hid (show Fits (rowTo ts s j) from fun x hx => by
        unfold rowTo at hx
        obtain ⟨b, _, rfl⟩ := List.mem_map.1 hx
        obtain ⟨i, hi, _, e⟩ := Vc.bt_num HM.out.T b
        rw [e]
        have := HM.out.T.len
        exact wf_in (by omega) (by omega))
      have HE := hid (show Pr.run ms (rowTo ts s j) = Pr.enc ms (Vc.bt ts) s from rowTo_all (by rw [← HS.out, by_length, str_size]; exact Nat.le_refl _))
      have CR := hid (C4.out.below HB.out)
      have DR := hid (D4.out.below HB.out)
      have BR := hid (B4.out.trans (HB.out.mono B4.out.size))
      clear hI HO VR XR
      go_wp2_with fail
      refine (efixed_calls _).mono ?_
      rintro e w6 ⟨rfl, b6⟩
      have S6 := hid (SR.out.below b6)
      have C6 := hid (CR.out.below b6)
      have D6 := hid (DR.out.below b6)
      have I6 := hid (I5.out.below b6)
      have B6 := hid (BR.out.trans (b6.mono BR.out.size))
      clear b6 SR CR DR I5 BR
      go_wp2_with fail
      refine (eenc_calls C6.out S6.out (by omega)).mono ?_
      rintro e w7 ⟨⟨a7, n7, c7, rfl, i7⟩, b7⟩
      rw [HS.out] at i7
      have J7 := hid i7
      have D7 := hid (D6.out.below b7)
      have I7 := hid (I6.out.below b7)
      have B7 := hid (B6.out.trans (b7.mono B6.out.size))
      clear b7 i7 S6 C6 D6 I6 B6
      go_wp2_with fail
      refine (run_calls D7.out I7.out FE.out (fun k hk => is_wf HM.out.T (HM.out.M.ok k hk).2.2.1) (by omega)).mono ?_
      rintro e w8 ⟨⟨a8, n8, c8, rfl, i8⟩, b8⟩
      rw [HE.out] at i8
      have I8 := hid i8
      have J8 := hid (J7.out.below b8)
      have B8 := hid (B7.out.trans (b8.mono B7.out.size))
      clear b8 i8 D7 I7 J7 B7
      go_wp2_with fail
      refine (says_is (b := true) (same_calls J8.out I8.out) (by simp)).mono ?_
      rintro e w9 ⟨rfl, b9⟩
      have B9 := hid (B8.out.trans (b9.mono B8.out.size))
      clear b9 B8
      go_wp2_with fail
      go_ret
      exact ⟨rfl, B9.out⟩
end Go.Proofs.Ytcjakjmhghoilaa
