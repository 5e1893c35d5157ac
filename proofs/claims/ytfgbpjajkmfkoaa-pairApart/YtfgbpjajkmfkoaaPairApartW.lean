/-
  The walk of the law PairApart.
-/
import Derived.Test.YtfgbpjajkmfkoaaLotP
namespace Go.Proofs.Ytfgbpjajkmfkoaa
open Go.RowKit Go.Maps
set_option linter.unusedVariables false

theorem fits_mid {a b : Pr.Row} {o : Int} (ha : Fits a) (hb : Fits b) (ho : (Lit.int .i64 o).wf = true) : Fits (a ++ o :: b) := by
  intro x hx
  rcases List.mem_append.1 hx with h | h
  · exact ha x h
  · rcases List.mem_cons.1 h with rfl | h
    · exact ho
    · exact hb x h
set_option maxRecDepth 100000 in
set_option maxHeartbeats 12800000 in
theorem pairApart_calls {w : World} {a am az ra rb : Option Addr} {n c nm cm ns cs na ca nb cb : Nat} {ts : Vc.Toks} {ms : List Mg4} {sp : Vc.Sps} {xa xb : Pr.Row} (V : Vo w a n c am nm cm az ns cs ts ms sp) (Ra : Ir w ra na ca xa) (FA : Fits xa) (Rb : Ir w rb nb cb xb) (FB : Fits xb) (odd : Int) (wo : (Lit.int .i64 odd).wf = true) :
    Calls Try.prog 7 #[.agg #[.slice a n c, .slice am nm cm, .slice az ns cs], .slice ra na ca, .slice rb nb cb, .int .i64 odd] w fun e w' => e = .returned (.bool true) ∧ Below w.heap.size w w' := by
  have hl := V.T.len
  have hlm := V.M.len
  have hls := V.S.len
  have hla := Ra.len
  have hlb := Rb.len
  have B0 := hid ((Below.refl w.heap.size w).alloc (Nat.le_refl _) (.cells #[.slice a n c, .slice am nm cm, .slice az ns cs] 26))
  have X0 := hid (Bx3.new w 26 (.slice a n c) (.slice am nm cm) (.slice az ns cs))
  have V0 := hid (V.below B0.out)
  have P0 := hid (Ra.below B0.out)
  have Q0 := hid (Rb.below B0.out)
  have GA := hid FA
  have GB := hid FB
  have GO := hid wo
  have FAll := hid (fits_mid FA FB wo)
  clear V Ra Rb FA FB wo
  obtain ⟨i0, hi, hz0, hz1, hz2⟩ := info_parts Try.infoInt
  have x0 := X0.out.cell0
  have x1 := X0.out.cell1
  have x2 := X0.out.cell2
  go_enter Try.func7, Try.ntmps7
  go_wp2_with fail
  refine (great_calls (m := 0) (d := 0) (ar := none) V0.out).mono ?_
  rintro e w1 ⟨⟨g, rfl, hg⟩, b1⟩
  have X1 := hid (X0.out.below b1 X0.out.lt)
  have B1 := hid (B0.out.trans (b1.mono B0.out.size))
  have V1 := hid (V0.out.below b1)
  have P1 := hid (P0.out.below b1)
  have Q1 := hid (Q0.out.below b1)
  have HG := hid hg
  clear hg b1 X0 V0 B0 P0 Q0 x0 x1 x2
  cases g
  rotate_left
  · skip
    go_wp2_with fail
    refine (fixed_calls _).mono ?_
    rintro e wf ⟨rfl, bf⟩
    have BF := hid (B1.out.trans (bf.mono B1.out.size))
    clear bf
    go_wp2_with fail
    go_ret
    exact ⟨rfl, BF.out⟩
  have HSm := hid (show Vc.Small ts ms sp from (show Pr.Small ts ms sp 0 from Classical.byContradiction fun h => absurd (HG.out.2 h) (by decide)).1)
  clear HG
  by_cases ga : (30 : Int) < na
  · skip
    go_wp2_with fail
    refine (fixed_calls _).mono ?_
    rintro e wf ⟨rfl, bf⟩
    have BF := hid (B1.out.trans (bf.mono B1.out.size))
    clear bf
    go_wp2_with fail
    go_ret
    exact ⟨rfl, BF.out⟩
  have da : decide ((30 : Int) < na) = false := decide_eq_false ga
  by_cases gb : (30 : Int) < nb
  · skip
    go_wp2_with fail
    refine (fixed_calls _).mono ?_
    rintro e wf ⟨rfl, bf⟩
    have BF := hid (B1.out.trans (bf.mono B1.out.size))
    clear bf
    go_wp2_with fail
    go_ret
    exact ⟨rfl, BF.out⟩
  have db : decide ((30 : Int) < nb) = false := decide_eq_false gb
  have hna : na ≤ 30 := by omega
  have hnb : nb ≤ 30 := by omega
  have x0 := X1.out.cell0
  have x1 := X1.out.cell1
  have x2 := X1.out.cell2
  go_wp2_with fail
  refine (rmay_calls V1.out (fun i hi => Nat.le_trans (HSm.out.sz i hi) (by decide))).mono ?_
  rintro e w2 ⟨⟨g, rfl, hg⟩, b2⟩
  have X2 := hid (X1.out.below b2 X1.out.lt)
  have B2 := hid (B1.out.trans (b2.mono B1.out.size))
  have V2 := hid (V1.out.below b2)
  have P2 := hid (P1.out.below b2)
  have Q2 := hid (Q1.out.below b2)
  have HG := hid hg
  clear hg b2 X1 V1 B1 P1 Q1 x0 x1 x2
  cases g
  · skip
    go_wp2_with fail
    refine (fixed_calls _).mono ?_
    rintro e wf ⟨rfl, bf⟩
    have BF := hid (B2.out.trans (bf.mono B2.out.size))
    clear bf
    go_wp2_with fail
    go_ret
    exact ⟨rfl, BF.out⟩
  have HM := hid (HG.out.1 rfl)
  clear HG
  have x0 := X2.out.cell0
  have x1 := X2.out.cell1
  have x2 := X2.out.cell2
  by_cases ho : 0 ≤ odd ∧ odd < n ∧ (at_ ts odd.toNat).size ≠ 0
  · skip
    obtain ⟨o0, o1, o2⟩ := ho
    obtain ⟨q, rfl⟩ : ∃ q : Nat, odd = q := ⟨odd.toNat, by omega⟩
    rw [Int.toNat_natCast] at o2
    obtain ⟨b7, o7, rfl, hb7, hc7⟩ := V2.out.T.at' (by omega)
    have q1 := hc7 q (by omega)
    obtain ⟨t, ht⟩ : ∃ t, at_ ts q = t := ⟨_, rfl⟩
    rw [ht] at q1 o2
    have e1 := (ba_full o2).1
    have e2 := (ba_full o2).2
    clear hc7 ht o2
    go_wp2_with fail
    refine (fixed_calls _).mono ?_
    rintro e wf ⟨rfl, bf⟩
    have BF := hid (B2.out.trans (bf.mono B2.out.size))
    clear bf
    go_wp2_with fail
    go_ret
    exact ⟨rfl, BF.out⟩
  have HIv := hid (show iv (xa ++ odd :: xb) = iv xa ++ [.int .i64 odd] ++ iv xb by simp [iv])
  have HIr := hid (show iv (Pr.run ms xa ++ odd :: Pr.run ms xb) = iv (Pr.run ms xa) ++ [.int .i64 odd] ++ iv (Pr.run ms xb) by simp [iv])
  have HNI := hid (show ¬ Vc.Is ts odd from fun h => ho ⟨h.1, by have := h.2.1; omega, h.2.2⟩)
  have hways : decide (0 ≤ odd) = false ∨ (0 ≤ odd ∧ decide (odd < (n : Int)) = false) ∨ (∃ q : Nat, odd = q ∧ q < n ∧ (at_ ts q).size = 0) := by
    by_cases o0 : 0 ≤ odd
    · by_cases o1 : odd < n
      · refine .inr (.inr ⟨odd.toNat, by omega, by omega, ?_⟩)
        exact Classical.byContradiction fun h => ho ⟨o0, o1, h⟩
      · exact .inr (.inl ⟨o0, decide_eq_false o1⟩)
    · exact .inl (decide_eq_false o0)
  clear ho
  rcases hways with hw1 | ⟨hw1, hw2⟩ | ⟨q, hw1, hw2, hw3⟩
  · go_wp2_with fail
    clear hw1
    refine (new_calls V2.out (fun i hi => Nat.le_trans (HSm.out.tz i (by omega)) (by decide))).mono ?_
    rintro e w4 ⟨E4, b4⟩
    have B4 := hid (B2.out.trans (b4.mono B2.out.size))
    have P4 := hid (P2.out.below b4)
    have Q4 := hid (Q2.out.below b4)
    clear b4 X2 V2 B2 P2 Q2 x0 x1 x2
    rcases E4 with ⟨_, B, rfl, hT⟩ | ⟨hM, _⟩
    rotate_left
    · exact absurd HM.out hM
    have T4 := hid hT
    clear hT
    have C4 := hid ((Below.refl w4.heap.size w4).alloc (Nat.le_refl _) (.cells #[] 3))
    have S4 := hid (P4.out.below C4.out)
    go_wp2_with (first | (at_builtin; refine wpList_append_src rfl _ _ 39 rfl w4.heap.size 3 i0 (.int .i64 0) 1 8 Try.underlying39 hi hz0 hz1 hz2 rfl (by decide) _ 0 _ rfl (own_empty w4.heap.size rfl (Nat.le_refl _)) ra na ca (iv xa) rfl S4.out.src (by unfold maxLen; omega) (by omega) (by simp) ?_; intro v5 w5 own gr loc; rw [Nat.zero_add, List.nil_append] at own; obtain ⟨a5, c5, rfl, _⟩ := Ir.ofOwn own; have O5 := hid own; have C5 := hid (C4.out.grown gr (by simp) (fun g h => Nat.le_of_eq (Option.some.inj (show some w4.heap.size = some g from h)))); have D5 := hid (C5.out.alloc C5.out.size (.cells #[.int .i64 odd] 3)); clear own gr loc) | (at_builtin; refine wpList_append_src rfl _ _ 39 rfl w4.heap.size 3 i0 (.int .i64 0) 1 8 Try.underlying39 hi hz0 hz1 hz2 rfl (by decide) _ na _ rfl (O5.out.alloc _) (some ⟨w5.heap.size, 0, none⟩) 1 1 [.int .i64 odd] rfl (Src.new #[.int .i64 odd] 3 w5.heap.size rfl rfl (by simp [Value.oneCell'])) (by unfold maxLen; omega) (by omega) (by have := C5.out.size; simp; omega) ?_; intro v6 w6 own gr loc; obtain ⟨a6, c6, rfl, _⟩ := Ir.ofOwn (xs := xa ++ [odd]) (by rw [← iv_append]; exact own); have O6 := hid own; have C6 := hid (D5.out.grown gr D5.out.size (fun g h => (O5.out.lt g h).1)); clear own gr loc) | (at_builtin; refine wpList_append_src rfl _ _ 39 rfl w4.heap.size 3 i0 (.int .i64 0) 1 8 Try.underlying39 hi hz0 hz1 hz2 rfl (by decide) _ (na + 1) _ rfl O6.out rb nb cb (iv xb) rfl (Q4.out.below C6.out).src (by unfold maxLen; omega) (by omega) C6.out.size ?_; intro v7 w7 own gr loc; obtain ⟨a7, c7, rfl, I7⟩ := Ir.ofOwn (xs := xa ++ odd :: xb) (by rw [HIv.out]; exact own); have A7 := hid I7; have b7 := C6.out.grown gr C6.out.size (fun g h => (O6.out.lt g h).1); clear own gr loc I7))
    have P7 := hid (P4.out.below b7)
    have Q7 := hid (Q4.out.below b7)
    have T7 := hid (T4.out.below b7)
    have B7 := hid (B4.out.trans (b7.mono B4.out.size))
    clear b7 C4 S4 P4 Q4 T4 B4 O5 C5 D5 O6 C6
    have b8 := (Below.refl w7.heap.size w7).alloc (Nat.le_refl _) (.cells #[] 3)
    have C8 := hid b8
    have P8 := hid (P7.out.below b8)
    have T8 := hid (T7.out.below b8)
    have O8 := hid (show (w7.alloc (.cells #[] 3)).ownsRow w7.heap.size 3 1 (.slice (some ⟨w7.heap.size, 0, none⟩) 0 0) 0 [] from own_empty w7.heap.size rfl (Nat.le_refl _))
    clear b8 P7
    refine (run_calls T8.out P8.out GA.out (may_wf HM.out) (by omega)).mono ?_
    rintro e w9 ⟨⟨a9, m9, c9, rfl, I9⟩, b9⟩
    have E9 := hid I9
    have O9 := hid (own_below O8.out b9)
    have C9 := hid (C8.out.trans (b9.mono C8.out.size))
    have hm9 : m9 ≤ 30 := by have := E9.out.len; have := Pr.run_len ms xa; omega
    have D9 := hid (Below.refl w9.heap.size w9)
    clear b9 I9 O8 C8 P8 T8
    go_wp2_with (first | (at_builtin; refine wpList_append_src rfl _ _ 39 rfl w7.heap.size 3 i0 (.int .i64 0) 1 8 Try.underlying39 hi hz0 hz1 hz2 rfl (by decide) _ 0 _ rfl O9.out a9 m9 c9 (iv (Pr.run ms xa)) rfl E9.out.src (by unfold maxLen; omega) (by omega) C9.out.size ?_; intro v10 w10 own gr loc; rw [Nat.zero_add, List.nil_append] at own; obtain ⟨a10, c10, rfl, _⟩ := Ir.ofOwn own; have O10 := hid own; have C10 := hid (C9.out.grown gr C9.out.size (fun g h => (O9.out.lt g h).1)); have D10 := hid (C10.out.alloc C10.out.size (.cells #[.int .i64 odd] 3)); clear own gr loc) | (at_builtin; refine wpList_append_src rfl _ _ 39 rfl w7.heap.size 3 i0 (.int .i64 0) 1 8 Try.underlying39 hi hz0 hz1 hz2 rfl (by decide) _ m9 _ rfl (O10.out.alloc _) (some ⟨w10.heap.size, 0, none⟩) 1 1 [.int .i64 odd] rfl (Src.new #[.int .i64 odd] 3 w10.heap.size rfl rfl (by simp [Value.oneCell'])) (by unfold maxLen; omega) (by omega) (by have := C10.out.size; simp; omega) ?_; intro v11 w11 own gr loc; obtain ⟨a11, c11, rfl, _⟩ := Ir.ofOwn (xs := Pr.run ms xa ++ [odd]) (by rw [← iv_append]; exact own); have O11 := hid own; have C11 := hid (D10.out.grown gr D10.out.size (fun g h => (O10.out.lt g h).1)); clear own gr loc))
    have P11 := hid (Q7.out.below C11.out)
    have T11 := hid (T7.out.below C11.out)
    clear O9 C9 D9 O10 C10 D10
    refine (run_calls T11.out P11.out GB.out (may_wf HM.out) (by omega)).mono ?_
    rintro e w12 ⟨⟨a12, m12, c12, rfl, I12⟩, b12⟩
    have E12 := hid I12
    have O12 := hid (own_below O11.out b12)
    have C12 := hid (C11.out.trans (b12.mono C11.out.size))
    have hm12 : m12 ≤ 30 := by have := E12.out.len; have := Pr.run_len ms xb; omega
    clear b12 I12 O11 C11 P11 T11
    go_wp2_with (first | (at_builtin; refine wpList_append_src rfl _ _ 39 rfl w7.heap.size 3 i0 (.int .i64 0) 1 8 Try.underlying39 hi hz0 hz1 hz2 rfl (by decide) _ (m9 + 1) _ rfl O12.out a12 m12 c12 (iv (Pr.run ms xb)) rfl E12.out.src (by unfold maxLen; omega) (by omega) C12.out.size ?_; intro v13 w13 own gr loc; obtain ⟨a13, c13, rfl, I13⟩ := Ir.ofOwn (xs := Pr.run ms xa ++ odd :: Pr.run ms xb) (by rw [HIr.out]; exact own); have E13 := hid I13; have C13 := hid (C12.out.grown gr C12.out.size (fun g h => (O12.out.lt g h).1)); clear own gr loc I13))
    refine (fixed_calls _).mono ?_
    rintro e w14 ⟨rfl, b14⟩
    have E14 := hid (E13.out.below b14)
    have C14 := hid (C13.out.trans (b14.mono C13.out.size))
    have T14 := hid (T7.out.below C14.out)
    have A14 := hid (A7.out.below C14.out)
    clear b14 E13 C13 O12 C12 E12 E9
    go_wp2_with fail
    refine (run_calls T14.out A14.out FAll.out (may_wf HM.out) (by omega)).mono ?_
    rintro e w15 ⟨⟨a15, m15, c15, rfl, I15⟩, b15⟩
    have E15 := hid (E14.out.below b15)
    have C15 := hid (C14.out.trans (b15.mono C14.out.size))
    have G15 := hid I15
    clear b15 I15 E14 C14 T14 A14
    go_wp2_with fail
    refine (says_is (b := true) (same_calls G15.out E15.out) (by simp [Pr.mid_run HM.out.M HNI.out _ xa xb (Nat.le_refl _)])).mono ?_
    rintro e w16 ⟨rfl, b16⟩
    have C16 := hid (C15.out.trans (b16.mono C15.out.size))
    have B16 := hid (B7.out.trans (C16.out.mono B7.out.size))
    clear b16
    go_wp2_with fail
    go_ret
    exact ⟨rfl, B16.out⟩
  · go_wp2_with fail
    clear hw1 hw2
    refine (new_calls V2.out (fun i hi => Nat.le_trans (HSm.out.tz i (by omega)) (by decide))).mono ?_
    rintro e w4 ⟨E4, b4⟩
    have B4 := hid (B2.out.trans (b4.mono B2.out.size))
    have P4 := hid (P2.out.below b4)
    have Q4 := hid (Q2.out.below b4)
    clear b4 X2 V2 B2 P2 Q2 x0 x1 x2
    rcases E4 with ⟨_, B, rfl, hT⟩ | ⟨hM, _⟩
    rotate_left
    · exact absurd HM.out hM
    have T4 := hid hT
    clear hT
    have C4 := hid ((Below.refl w4.heap.size w4).alloc (Nat.le_refl _) (.cells #[] 3))
    have S4 := hid (P4.out.below C4.out)
    go_wp2_with (first | (at_builtin; refine wpList_append_src rfl _ _ 39 rfl w4.heap.size 3 i0 (.int .i64 0) 1 8 Try.underlying39 hi hz0 hz1 hz2 rfl (by decide) _ 0 _ rfl (own_empty w4.heap.size rfl (Nat.le_refl _)) ra na ca (iv xa) rfl S4.out.src (by unfold maxLen; omega) (by omega) (by simp) ?_; intro v5 w5 own gr loc; rw [Nat.zero_add, List.nil_append] at own; obtain ⟨a5, c5, rfl, _⟩ := Ir.ofOwn own; have O5 := hid own; have C5 := hid (C4.out.grown gr (by simp) (fun g h => Nat.le_of_eq (Option.some.inj (show some w4.heap.size = some g from h)))); have D5 := hid (C5.out.alloc C5.out.size (.cells #[.int .i64 odd] 3)); clear own gr loc) | (at_builtin; refine wpList_append_src rfl _ _ 39 rfl w4.heap.size 3 i0 (.int .i64 0) 1 8 Try.underlying39 hi hz0 hz1 hz2 rfl (by decide) _ na _ rfl (O5.out.alloc _) (some ⟨w5.heap.size, 0, none⟩) 1 1 [.int .i64 odd] rfl (Src.new #[.int .i64 odd] 3 w5.heap.size rfl rfl (by simp [Value.oneCell'])) (by unfold maxLen; omega) (by omega) (by have := C5.out.size; simp; omega) ?_; intro v6 w6 own gr loc; obtain ⟨a6, c6, rfl, _⟩ := Ir.ofOwn (xs := xa ++ [odd]) (by rw [← iv_append]; exact own); have O6 := hid own; have C6 := hid (D5.out.grown gr D5.out.size (fun g h => (O5.out.lt g h).1)); clear own gr loc) | (at_builtin; refine wpList_append_src rfl _ _ 39 rfl w4.heap.size 3 i0 (.int .i64 0) 1 8 Try.underlying39 hi hz0 hz1 hz2 rfl (by decide) _ (na + 1) _ rfl O6.out rb nb cb (iv xb) rfl (Q4.out.below C6.out).src (by unfold maxLen; omega) (by omega) C6.out.size ?_; intro v7 w7 own gr loc; obtain ⟨a7, c7, rfl, I7⟩ := Ir.ofOwn (xs := xa ++ odd :: xb) (by rw [HIv.out]; exact own); have A7 := hid I7; have b7 := C6.out.grown gr C6.out.size (fun g h => (O6.out.lt g h).1); clear own gr loc I7))
    have P7 := hid (P4.out.below b7)
    have Q7 := hid (Q4.out.below b7)
    have T7 := hid (T4.out.below b7)
    have B7 := hid (B4.out.trans (b7.mono B4.out.size))
    clear b7 C4 S4 P4 Q4 T4 B4 O5 C5 D5 O6 C6
    have b8 := (Below.refl w7.heap.size w7).alloc (Nat.le_refl _) (.cells #[] 3)
    have C8 := hid b8
    have P8 := hid (P7.out.below b8)
    have T8 := hid (T7.out.below b8)
    have O8 := hid (show (w7.alloc (.cells #[] 3)).ownsRow w7.heap.size 3 1 (.slice (some ⟨w7.heap.size, 0, none⟩) 0 0) 0 [] from own_empty w7.heap.size rfl (Nat.le_refl _))
    clear b8 P7
    refine (run_calls T8.out P8.out GA.out (may_wf HM.out) (by omega)).mono ?_
    rintro e w9 ⟨⟨a9, m9, c9, rfl, I9⟩, b9⟩
    have E9 := hid I9
    have O9 := hid (own_below O8.out b9)
    have C9 := hid (C8.out.trans (b9.mono C8.out.size))
    have hm9 : m9 ≤ 30 := by have := E9.out.len; have := Pr.run_len ms xa; omega
    have D9 := hid (Below.refl w9.heap.size w9)
    clear b9 I9 O8 C8 P8 T8
    go_wp2_with (first | (at_builtin; refine wpList_append_src rfl _ _ 39 rfl w7.heap.size 3 i0 (.int .i64 0) 1 8 Try.underlying39 hi hz0 hz1 hz2 rfl (by decide) _ 0 _ rfl O9.out a9 m9 c9 (iv (Pr.run ms xa)) rfl E9.out.src (by unfold maxLen; omega) (by omega) C9.out.size ?_; intro v10 w10 own gr loc; rw [Nat.zero_add, List.nil_append] at own; obtain ⟨a10, c10, rfl, _⟩ := Ir.ofOwn own; have O10 := hid own; have C10 := hid (C9.out.grown gr C9.out.size (fun g h => (O9.out.lt g h).1)); have D10 := hid (C10.out.alloc C10.out.size (.cells #[.int .i64 odd] 3)); clear own gr loc) | (at_builtin; refine wpList_append_src rfl _ _ 39 rfl w7.heap.size 3 i0 (.int .i64 0) 1 8 Try.underlying39 hi hz0 hz1 hz2 rfl (by decide) _ m9 _ rfl (O10.out.alloc _) (some ⟨w10.heap.size, 0, none⟩) 1 1 [.int .i64 odd] rfl (Src.new #[.int .i64 odd] 3 w10.heap.size rfl rfl (by simp [Value.oneCell'])) (by unfold maxLen; omega) (by omega) (by have := C10.out.size; simp; omega) ?_; intro v11 w11 own gr loc; obtain ⟨a11, c11, rfl, _⟩ := Ir.ofOwn (xs := Pr.run ms xa ++ [odd]) (by rw [← iv_append]; exact own); have O11 := hid own; have C11 := hid (D10.out.grown gr D10.out.size (fun g h => (O10.out.lt g h).1)); clear own gr loc))
    have P11 := hid (Q7.out.below C11.out)
    have T11 := hid (T7.out.below C11.out)
    clear O9 C9 D9 O10 C10 D10
    refine (run_calls T11.out P11.out GB.out (may_wf HM.out) (by omega)).mono ?_
    rintro e w12 ⟨⟨a12, m12, c12, rfl, I12⟩, b12⟩
    have E12 := hid I12
    have O12 := hid (own_below O11.out b12)
    have C12 := hid (C11.out.trans (b12.mono C11.out.size))
    have hm12 : m12 ≤ 30 := by have := E12.out.len; have := Pr.run_len ms xb; omega
    clear b12 I12 O11 C11 P11 T11
    go_wp2_with (first | (at_builtin; refine wpList_append_src rfl _ _ 39 rfl w7.heap.size 3 i0 (.int .i64 0) 1 8 Try.underlying39 hi hz0 hz1 hz2 rfl (by decide) _ (m9 + 1) _ rfl O12.out a12 m12 c12 (iv (Pr.run ms xb)) rfl E12.out.src (by unfold maxLen; omega) (by omega) C12.out.size ?_; intro v13 w13 own gr loc; obtain ⟨a13, c13, rfl, I13⟩ := Ir.ofOwn (xs := Pr.run ms xa ++ odd :: Pr.run ms xb) (by rw [HIr.out]; exact own); have E13 := hid I13; have C13 := hid (C12.out.grown gr C12.out.size (fun g h => (O12.out.lt g h).1)); clear own gr loc I13))
    refine (fixed_calls _).mono ?_
    rintro e w14 ⟨rfl, b14⟩
    have E14 := hid (E13.out.below b14)
    have C14 := hid (C13.out.trans (b14.mono C13.out.size))
    have T14 := hid (T7.out.below C14.out)
    have A14 := hid (A7.out.below C14.out)
    clear b14 E13 C13 O12 C12 E12 E9
    go_wp2_with fail
    refine (run_calls T14.out A14.out FAll.out (may_wf HM.out) (by omega)).mono ?_
    rintro e w15 ⟨⟨a15, m15, c15, rfl, I15⟩, b15⟩
    have E15 := hid (E14.out.below b15)
    have C15 := hid (C14.out.trans (b15.mono C14.out.size))
    have G15 := hid I15
    clear b15 I15 E14 C14 T14 A14
    go_wp2_with fail
    refine (says_is (b := true) (same_calls G15.out E15.out) (by simp [Pr.mid_run HM.out.M HNI.out _ xa xb (Nat.le_refl _)])).mono ?_
    rintro e w16 ⟨rfl, b16⟩
    have C16 := hid (C15.out.trans (b16.mono C15.out.size))
    have B16 := hid (B7.out.trans (C16.out.mono B7.out.size))
    clear b16
    go_wp2_with fail
    go_ret
    exact ⟨rfl, B16.out⟩
  · subst hw1
    have o0 : (0 : Int) ≤ q := by omega
    have o1 : (q : Int) < n := by omega
    obtain ⟨b7, o7, rfl, hb7, hc7⟩ := V2.out.T.at' (by omega)
    have q1 := hc7 q hw2
    obtain ⟨t, ht⟩ : ∃ t, at_ ts q = t := ⟨_, rfl⟩
    rw [ht] at q1 hw3
    have e1 := (ba_empty hw3).1
    have e2 := (ba_empty hw3).2
    clear hc7 ht hw3
    go_wp2_with fail
    clear o0 o1 q1 e1 e2 hw2 hb7
    generalize (q : Int) = odd at *
    refine (new_calls V2.out (fun i hi => Nat.le_trans (HSm.out.tz i (by omega)) (by decide))).mono ?_
    rintro e w4 ⟨E4, b4⟩
    have B4 := hid (B2.out.trans (b4.mono B2.out.size))
    have P4 := hid (P2.out.below b4)
    have Q4 := hid (Q2.out.below b4)
    clear b4 X2 V2 B2 P2 Q2 x0 x1 x2
    rcases E4 with ⟨_, B, rfl, hT⟩ | ⟨hM, _⟩
    rotate_left
    · exact absurd HM.out hM
    have T4 := hid hT
    clear hT
    have C4 := hid ((Below.refl w4.heap.size w4).alloc (Nat.le_refl _) (.cells #[] 3))
    have S4 := hid (P4.out.below C4.out)
    go_wp2_with (first | (at_builtin; refine wpList_append_src rfl _ _ 39 rfl w4.heap.size 3 i0 (.int .i64 0) 1 8 Try.underlying39 hi hz0 hz1 hz2 rfl (by decide) _ 0 _ rfl (own_empty w4.heap.size rfl (Nat.le_refl _)) ra na ca (iv xa) rfl S4.out.src (by unfold maxLen; omega) (by omega) (by simp) ?_; intro v5 w5 own gr loc; rw [Nat.zero_add, List.nil_append] at own; obtain ⟨a5, c5, rfl, _⟩ := Ir.ofOwn own; have O5 := hid own; have C5 := hid (C4.out.grown gr (by simp) (fun g h => Nat.le_of_eq (Option.some.inj (show some w4.heap.size = some g from h)))); have D5 := hid (C5.out.alloc C5.out.size (.cells #[.int .i64 odd] 3)); clear own gr loc) | (at_builtin; refine wpList_append_src rfl _ _ 39 rfl w4.heap.size 3 i0 (.int .i64 0) 1 8 Try.underlying39 hi hz0 hz1 hz2 rfl (by decide) _ na _ rfl (O5.out.alloc _) (some ⟨w5.heap.size, 0, none⟩) 1 1 [.int .i64 odd] rfl (Src.new #[.int .i64 odd] 3 w5.heap.size rfl rfl (by simp [Value.oneCell'])) (by unfold maxLen; omega) (by omega) (by have := C5.out.size; simp; omega) ?_; intro v6 w6 own gr loc; obtain ⟨a6, c6, rfl, _⟩ := Ir.ofOwn (xs := xa ++ [odd]) (by rw [← iv_append]; exact own); have O6 := hid own; have C6 := hid (D5.out.grown gr D5.out.size (fun g h => (O5.out.lt g h).1)); clear own gr loc) | (at_builtin; refine wpList_append_src rfl _ _ 39 rfl w4.heap.size 3 i0 (.int .i64 0) 1 8 Try.underlying39 hi hz0 hz1 hz2 rfl (by decide) _ (na + 1) _ rfl O6.out rb nb cb (iv xb) rfl (Q4.out.below C6.out).src (by unfold maxLen; omega) (by omega) C6.out.size ?_; intro v7 w7 own gr loc; obtain ⟨a7, c7, rfl, I7⟩ := Ir.ofOwn (xs := xa ++ odd :: xb) (by rw [HIv.out]; exact own); have A7 := hid I7; have b7 := C6.out.grown gr C6.out.size (fun g h => (O6.out.lt g h).1); clear own gr loc I7))
    have P7 := hid (P4.out.below b7)
    have Q7 := hid (Q4.out.below b7)
    have T7 := hid (T4.out.below b7)
    have B7 := hid (B4.out.trans (b7.mono B4.out.size))
    clear b7 C4 S4 P4 Q4 T4 B4 O5 C5 D5 O6 C6
    have b8 := (Below.refl w7.heap.size w7).alloc (Nat.le_refl _) (.cells #[] 3)
    have C8 := hid b8
    have P8 := hid (P7.out.below b8)
    have T8 := hid (T7.out.below b8)
    have O8 := hid (show (w7.alloc (.cells #[] 3)).ownsRow w7.heap.size 3 1 (.slice (some ⟨w7.heap.size, 0, none⟩) 0 0) 0 [] from own_empty w7.heap.size rfl (Nat.le_refl _))
    clear b8 P7
    refine (run_calls T8.out P8.out GA.out (may_wf HM.out) (by omega)).mono ?_
    rintro e w9 ⟨⟨a9, m9, c9, rfl, I9⟩, b9⟩
    have E9 := hid I9
    have O9 := hid (own_below O8.out b9)
    have C9 := hid (C8.out.trans (b9.mono C8.out.size))
    have hm9 : m9 ≤ 30 := by have := E9.out.len; have := Pr.run_len ms xa; omega
    have D9 := hid (Below.refl w9.heap.size w9)
    clear b9 I9 O8 C8 P8 T8
    go_wp2_with (first | (at_builtin; refine wpList_append_src rfl _ _ 39 rfl w7.heap.size 3 i0 (.int .i64 0) 1 8 Try.underlying39 hi hz0 hz1 hz2 rfl (by decide) _ 0 _ rfl O9.out a9 m9 c9 (iv (Pr.run ms xa)) rfl E9.out.src (by unfold maxLen; omega) (by omega) C9.out.size ?_; intro v10 w10 own gr loc; rw [Nat.zero_add, List.nil_append] at own; obtain ⟨a10, c10, rfl, _⟩ := Ir.ofOwn own; have O10 := hid own; have C10 := hid (C9.out.grown gr C9.out.size (fun g h => (O9.out.lt g h).1)); have D10 := hid (C10.out.alloc C10.out.size (.cells #[.int .i64 odd] 3)); clear own gr loc) | (at_builtin; refine wpList_append_src rfl _ _ 39 rfl w7.heap.size 3 i0 (.int .i64 0) 1 8 Try.underlying39 hi hz0 hz1 hz2 rfl (by decide) _ m9 _ rfl (O10.out.alloc _) (some ⟨w10.heap.size, 0, none⟩) 1 1 [.int .i64 odd] rfl (Src.new #[.int .i64 odd] 3 w10.heap.size rfl rfl (by simp [Value.oneCell'])) (by unfold maxLen; omega) (by omega) (by have := C10.out.size; simp; omega) ?_; intro v11 w11 own gr loc; obtain ⟨a11, c11, rfl, _⟩ := Ir.ofOwn (xs := Pr.run ms xa ++ [odd]) (by rw [← iv_append]; exact own); have O11 := hid own; have C11 := hid (D10.out.grown gr D10.out.size (fun g h => (O10.out.lt g h).1)); clear own gr loc))
    have P11 := hid (Q7.out.below C11.out)
    have T11 := hid (T7.out.below C11.out)
    clear O9 C9 D9 O10 C10 D10
    refine (run_calls T11.out P11.out GB.out (may_wf HM.out) (by omega)).mono ?_
    rintro e w12 ⟨⟨a12, m12, c12, rfl, I12⟩, b12⟩
    have E12 := hid I12
    have O12 := hid (own_below O11.out b12)
    have C12 := hid (C11.out.trans (b12.mono C11.out.size))
    have hm12 : m12 ≤ 30 := by have := E12.out.len; have := Pr.run_len ms xb; omega
    clear b12 I12 O11 C11 P11 T11
    go_wp2_with (first | (at_builtin; refine wpList_append_src rfl _ _ 39 rfl w7.heap.size 3 i0 (.int .i64 0) 1 8 Try.underlying39 hi hz0 hz1 hz2 rfl (by decide) _ (m9 + 1) _ rfl O12.out a12 m12 c12 (iv (Pr.run ms xb)) rfl E12.out.src (by unfold maxLen; omega) (by omega) C12.out.size ?_; intro v13 w13 own gr loc; obtain ⟨a13, c13, rfl, I13⟩ := Ir.ofOwn (xs := Pr.run ms xa ++ odd :: Pr.run ms xb) (by rw [HIr.out]; exact own); have E13 := hid I13; have C13 := hid (C12.out.grown gr C12.out.size (fun g h => (O12.out.lt g h).1)); clear own gr loc I13))
    refine (fixed_calls _).mono ?_
    rintro e w14 ⟨rfl, b14⟩
    have E14 := hid (E13.out.below b14)
    have C14 := hid (C13.out.trans (b14.mono C13.out.size))
    have T14 := hid (T7.out.below C14.out)
    have A14 := hid (A7.out.below C14.out)
    clear b14 E13 C13 O12 C12 E12 E9
    go_wp2_with fail
    refine (run_calls T14.out A14.out FAll.out (may_wf HM.out) (by omega)).mono ?_
    rintro e w15 ⟨⟨a15, m15, c15, rfl, I15⟩, b15⟩
    have E15 := hid (E14.out.below b15)
    have C15 := hid (C14.out.trans (b15.mono C14.out.size))
    have G15 := hid I15
    clear b15 I15 E14 C14 T14 A14
    go_wp2_with fail
    refine (says_is (b := true) (same_calls G15.out E15.out) (by simp [Pr.mid_run HM.out.M HNI.out _ xa xb (Nat.le_refl _)])).mono ?_
    rintro e w16 ⟨rfl, b16⟩
    have C16 := hid (C15.out.trans (b16.mono C15.out.size))
    have B16 := hid (B7.out.trans (C16.out.mono B7.out.size))
    clear b16
    go_wp2_with fail
    go_ret
    exact ⟨rfl, B16.out⟩
end Go.Proofs.Ytfgbpjajkmfkoaa
