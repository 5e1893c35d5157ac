/-
  The walk of the law PairSteps.
-/
import Derived.Test.YtfgbpjajkmfkoaaLotP
import Derived.Lib.QuietBelow
import Derived.Deep.QuietTactic
import Derived.BigQuiet
namespace Go.Proofs.Ytfgbpjajkmfkoaa
open Go.RowKit Go.Maps
set_option linter.unusedVariables false

set_option maxRecDepth 100000 in
set_option maxHeartbeats 12800000 in
theorem pairSteps_calls {w : World} {a am az ar : Option Addr} {n c nm cm ns cs m d : Nat} {ts : Vc.Toks} {ms : List Mg4} {sp : Vc.Sps} {xs : Pr.Row} (V : Vo w a n c am nm cm az ns cs ts ms sp) (R : Ir w ar m d xs) (F : Fits xs) :
    Calls Try.prog 4 #[.agg #[.slice a n c, .slice am nm cm, .slice az ns cs], .slice ar m d] w fun e w' => e = .returned (.bool true) ∧ Below w.heap.size w w' := by
  have hl := V.T.len
  have hlm := V.M.len
  have hls := V.S.len
  have B0 := hid ((Below.refl w.heap.size w).alloc (Nat.le_refl _) (.cells #[.slice a n c, .slice am nm cm, .slice az ns cs] 26))
  have X0 := hid (Bx3.new w 26 (.slice a n c) (.slice am nm cm) (.slice az ns cs))
  have V0 := hid (V.below B0.out)
  have R0 := hid (R.below B0.out)
  have hlr := R.len
  have FW := hid F
  clear V R F
  have x0 := X0.out.cell0
  have x1 := X0.out.cell1
  have x2 := X0.out.cell2
  go_enter Try.func4, Try.ntmps4
  go_wp2_with fail
  refine (great_calls V0.out).mono ?_
  rintro e w1 ⟨⟨g, rfl, hg⟩, b1⟩
  have X1 := hid (X0.out.below b1 X0.out.lt)
  have V1 := hid (V0.out.below b1)
  have R1 := hid (R0.out.below b1)
  have B1 := hid (B0.out.trans (b1.mono B0.out.size))
  have HG := hid hg
  clear hg b1 X0 V0 B0 R0 x0 x1 x2
  cases g
  rotate_left
  · skip
    go_wp2_with fail
    refine (fixed_calls _).mono ?_
    rintro e wf ⟨rfl, bf⟩
    have BF := hid (B1.out.trans (bf.mono B1.out.size))
    clear bf
    go_wp2_with fail
    go_ret
    exact ⟨rfl, BF.out⟩
  have HSm0 := hid (show Pr.Small ts ms sp m from Classical.byContradiction fun h => absurd (HG.out.2 h) (by decide))
  have HSm := hid HSm0.out.1
  have hm60 := HSm0.out.2
  clear HG HSm0
  have hnm : nm ≤ 1000000 := by have := HSm.out.m; omega
  have hm1 : m ≤ 1000000 := by omega
  have x0 := X1.out.cell0
  have x1 := X1.out.cell1
  have x2 := X1.out.cell2
  go_wp2_with fail
  refine (rmay_calls V1.out (fun i hi => Nat.le_trans (HSm.out.sz i hi) (by decide))).mono ?_
  rintro e w2 ⟨⟨g, rfl, hg⟩, b2⟩
  have X2 := hid (X1.out.below b2 X1.out.lt)
  have V2 := hid (V1.out.below b2)
  have R2 := hid (R1.out.below b2)
  have B2 := hid (B1.out.trans (b2.mono B1.out.size))
  have HG := hid hg
  clear hg b2 X1 V1 R1 B1 x0 x1 x2
  cases g
  · skip
    go_wp2_with fail
    refine (fixed_calls _).mono ?_
    rintro e wf ⟨rfl, bf⟩
    have BF := hid (B2.out.trans (bf.mono B2.out.size))
    clear bf
    go_wp2_with fail
    go_ret
    exact ⟨rfl, BF.out⟩
  have HM := hid (HG.out.1 rfl)
  clear HG
  have x0 := X2.out.cell0
  have x1 := X2.out.cell1
  have x2 := X2.out.cell2
  go_wp2_with fail
  refine (new_calls V2.out (fun i hi => Nat.le_trans (HSm.out.tz i (by omega)) (by decide))).mono ?_
  rintro e w3 ⟨E3, b3⟩
  have X3 := hid (X2.out.below b3 X2.out.lt)
  have V3 := hid (V2.out.below b3)
  have R3 := hid (R2.out.below b3)
  have B3 := hid (B2.out.trans (b3.mono B2.out.size))
  clear b3 X2 V2 R2 B2 x0 x1 x2
  rcases E3 with ⟨_, B, rfl, hT⟩ | ⟨hM, _⟩
  rotate_left
  · exact absurd HM.out hM
  have T3 := hid hT
  clear hT
  have x0 := X3.out.cell0
  have x1 := X3.out.cell1
  have x2 := X3.out.cell2
  have WY := hid (best_ways ms xs)
  have PZ := hid (show ∀ o : Option (Nat × Nat), Pr.best ms xs = o → Pr.pz (Pr.best ms xs) = Pr.pz o ∧ Pr.kz (Pr.best ms xs) = Pr.kz o from fun o h => by rw [h]; exact ⟨rfl, rfl⟩)
  have hways : (∃ p k y0 y1 y2 y3, Pr.plc (Pr.best ms xs) = ((p : Nat) : Int) ∧ Pr.mrg ms (Pr.best ms xs) = (y0, y1, y2, y3) ∧ Pr.has (Pr.best ms xs) = true ∧ Pr.pz (Pr.best ms xs) = p ∧ Pr.kz (Pr.best ms xs) = ((k : Nat) : Int) ∧ k < nm ∧ mat ms k = (y0, y1, y2, y3) ∧ (∃ ys, Pr.step ms xs = some ys)) ∨
      (Pr.plc (Pr.best ms xs) = 0 ∧ Pr.mrg ms (Pr.best ms xs) = (0, 0, 0, 0) ∧ Pr.has (Pr.best ms xs) = false ∧ Pr.pz (Pr.best ms xs) = -1 ∧ Pr.kz (Pr.best ms xs) = -1 ∧ Pr.step ms xs = none) := by
    rcases WY.out with ⟨h1, h2, h3⟩ | ⟨p, k, h1, h2, h3, h4, h5, h6, h7⟩
    · exact .inr ⟨by rw [h1]; rfl, by rw [h1]; rfl, h2, (PZ.out _ h1).1, (PZ.out _ h1).2, h3⟩
    · exact .inl ⟨p, k, (mat ms k).1, (mat ms k).2.1, (mat ms k).2.2.1, (mat ms k).2.2.2, h3, h4, h2, (PZ.out _ h1).1, (PZ.out _ h1).2, by omega, rfl, _, h7⟩
  clear WY PZ
  rcases hways with ⟨p, k, y0, y1, y2, y3, h1, h2, h3, h4, h5, hk, hmk, ys, hst⟩ | ⟨h1, h2, h3, h4, h5, hst⟩
  · skip
    have BC := hid (best_is T3.out R3.out FW.out hm1 h1 h2 h3)
    have RC := hid (show ∀ W, Below w3.heap.size w3 W → Calls Try.prog 16 #[.agg #[.slice a n c, .slice am nm cm, .slice az ns cs], .slice ar m d] W fun e w' => e = .returned (.tuple #[.int .i64 (p), .int .i64 (k)]) ∧ Below W.heap.size W w' from fun W hW => by
      have := rbest_calls (V3.out.below hW) (R3.out.below hW) hnm hm1
      rw [h4, h5] at this
      exact this)
    have HSt := hid hst
    have HMk := hid hmk
    clear hmk
    clear h1 h2 h3 h4 h5 hst
    go_wp2_with fail
    refine BC.out.mono ?_
    rintro e w4 ⟨rfl, b4'⟩
    have b4 := b4'.alloc b4'.size (.cells #[.int .i64 y0, .int .i64 y1, .int .i64 y2, .int .i64 y3] 34)
    have Y5 := hid (Bx4.new w4 34 (.int .i64 y0) (.int .i64 y1) (.int .i64 y2) (.int .i64 y3))
    have V5 := hid (V3.out.below b4)
    have R5 := hid (R3.out.below b4)
    have T5 := hid (T3.out.below b4)
    have X5 := hid (X3.out.below b4 X3.out.lt)
    have B5 := hid (B3.out.trans (b4.mono B3.out.size))
    have RC5 := hid (RC.out _ b4)
    clear b4 b4' X3 V3 R3 T3 B3 BC RC x0 x1 x2
    have x0 := X5.out.cell0
    have x1 := X5.out.cell1
    have x2 := X5.out.cell2
    go_wp2_with fail
    clear x0 x1 x2
    obtain ⟨nb, hnb⟩ : ∃ nb, w4.heap.size = nb := ⟨_, rfl⟩
    obtain ⟨w5, hw5⟩ : ∃ W, w4.alloc (.cells #[.int .i64 y0, .int .i64 y1, .int .i64 y2, .int .i64 y3] 34) = W := ⟨_, rfl⟩
    rw [hw5] at X5 V5 R5 T5 B5 RC5
    rw [hw5, hnb] at Y5
    rw [hw5, hnb]
    clear hw5 hnb
    refine RC5.out.mono ?_
    rintro e w6 ⟨rfl, b6⟩
    have Y6 := hid (Y5.out.below b6 Y5.out.lt)
    clear Y5 RC5
    have X6 := hid (X5.out.below b6 X5.out.lt)
    have V6 := hid (V5.out.below b6)
    have R6 := hid (R5.out.below b6)
    have T6 := hid (T5.out.below b6)
    have B6 := hid (B5.out.trans (b6.mono B5.out.size))
    clear b6 X5 V5 R5 T5 B5
    go_wp2_with fail
    refine (step_calls T6.out R6.out FW.out hm1).mono ?_
    rintro e w7 ⟨Q7, b7⟩
    have Y7 := hid (Y6.out.below b7 Y6.out.lt)
    clear Y6
    have X7 := hid (X6.out.below b7 X6.out.lt)
    have V7 := hid (V6.out.below b7)
    have R7 := hid (R6.out.below b7)
    have T7 := hid (T6.out.below b7)
    have B7 := hid (B6.out.trans (b7.mono B6.out.size))
    clear b7 X6 V6 R6 T6 B6
    rcases Q7 with ⟨h, _⟩ | ⟨ys2, na, nm2, nc, h, rfl, hI⟩
    · rw [HSt.out] at h; cases h
    obtain rfl : ys = ys2 := Option.some.inj (HSt.out.symm.trans h)
    have N7 := hid hI
    clear h hI
    have x0 := X7.out.cell0
    have x1 := X7.out.cell1
    have x2 := X7.out.cell2
    go_wp2_with fail
    refine (rstep_calls V7.out R7.out hnm hm1).mono ?_
    rintro e w8 ⟨Q8, b8⟩
    have Y8 := hid (Y7.out.below b8 Y7.out.lt)
    clear Y7 x0 x1 x2
    have X8 := hid (X7.out.below b8 X7.out.lt)
    have V8 := hid (V7.out.below b8)
    have R8 := hid (R7.out.below b8)
    have T8 := hid (T7.out.below b8)
    have B8 := hid (B7.out.trans (b8.mono B7.out.size))
    have N8 := hid (N7.out.below b8)
    clear b8 X7 V7 R7 T7 B7 N7
    rcases Q8 with ⟨h, _⟩ | ⟨ys2, ra, rm, rc, h, rfl, hI⟩
    · rw [HSt.out] at h; cases h
    obtain rfl : ys = ys2 := Option.some.inj (HSt.out.symm.trans h)
    have M8 := hid hI
    clear h hI
    go_wp2_with fail
    refine (says_is (b := true) (same_calls N8.out M8.out) (by simp)).mono ?_
    rintro e w9 ⟨rfl, b9⟩
    have Y9 := hid (Y8.out.below b9 Y8.out.lt)
    clear Y8 M8
    have X9 := hid (X8.out.below b9 X8.out.lt)
    have V9 := hid (V8.out.below b9)
    have R9 := hid (R8.out.below b9)
    have T9 := hid (T8.out.below b9)
    have B9 := hid (B8.out.trans (b9.mono B8.out.size))
    have N9 := hid (N8.out.below b9)
    clear b9 X8 V8 R8 T8 B8 N8
    have eqq := fun w => Try.eqMg y0 y1 y2 y3 w
    have cF : ∀ d os, Calls Try.prog 9 #[] (Sort.grow (redrawn w9 d) os) fun e w'' => e = .returned (.bool true) ∧ ∃ p : Regrown, w'' = Sort.grow (redrawn w9 p.d) p.os := fun d os => Calls.regrown_of (fixed_calls _)
    have d0 := fun d os => cell_regrown Y9.out.cell0 d os
    have d1 := fun d os => cell_regrown Y9.out.cell1 d os
    have d2 := fun d os => cell_regrown Y9.out.cell2 d os
    have d3 := fun d os => cell_regrown Y9.out.cell3 d os
    have x1 := fun d os => cell_regrown X9.out.cell1 d os
    obtain ⟨bb7, o7, rfl, hb7, hc7⟩ := V9.out.M.at' (by omega)
    obtain ⟨q0, q1, q2, q3⟩ := hc7 k hk
    rw [HMk.out] at q0 q1 q2 q3
    have z0 := fun d os => cell_regrown q0 d os
    have z1 := fun d os => cell_regrown q1 d os
    have z2 := fun d os => cell_regrown q2 d os
    have z3 := fun d os => cell_regrown q3 d os
    have g0 : (0 : Int) ≤ k := by omega
    have g1 : (k : Int) < nm := by omega
    clear hc7 q0 q1 q2 q3 HMk
    go_wp2_with fail
    refine wp_region_quiet_below (by kernel_rfl) (by kernel_rfl) ?_
    repeat (any_goals (first | go_big_quiet_step (exact cF _ _) | quiet_step (exact cF _ _)))
    refine wpQuiet_nil ?_
    intro _ hw'
    obtain ⟨⟨dq, osq⟩, hw''⟩ := hw'
    subst hw''
    go_wp2_with fail
    go_ret
    exact ⟨rfl, B9.out.trans ((below_regrown _ dq osq).mono B9.out.size)⟩
  · skip
    have BC := hid (best_is T3.out R3.out FW.out hm1 h1 h2 h3)
    have RC := hid (show ∀ W, Below w3.heap.size w3 W → Calls Try.prog 16 #[.agg #[.slice a n c, .slice am nm cm, .slice az ns cs], .slice ar m d] W fun e w' => e = .returned (.tuple #[.int .i64 (-1), .int .i64 (-1)]) ∧ Below W.heap.size W w' from fun W hW => by
      have := rbest_calls (V3.out.below hW) (R3.out.below hW) hnm hm1
      rw [h4, h5] at this
      exact this)
    have HSt := hid hst
    clear h1 h2 h3 h4 h5 hst
    go_wp2_with fail
    refine BC.out.mono ?_
    rintro e w4 ⟨rfl, b4'⟩
    have b4 := b4'.alloc b4'.size (.cells #[.int .i64 0, .int .i64 0, .int .i64 0, .int .i64 0] 34)
    have Y5 := hid (Bx4.new w4 34 (.int .i64 0) (.int .i64 0) (.int .i64 0) (.int .i64 0))
    have V5 := hid (V3.out.below b4)
    have R5 := hid (R3.out.below b4)
    have T5 := hid (T3.out.below b4)
    have X5 := hid (X3.out.below b4 X3.out.lt)
    have B5 := hid (B3.out.trans (b4.mono B3.out.size))
    have RC5 := hid (RC.out _ b4)
    clear b4 b4' X3 V3 R3 T3 B3 BC RC x0 x1 x2
    have x0 := X5.out.cell0
    have x1 := X5.out.cell1
    have x2 := X5.out.cell2
    go_wp2_with fail
    clear x0 x1 x2
    obtain ⟨nb, hnb⟩ : ∃ nb, w4.heap.size = nb := ⟨_, rfl⟩
    obtain ⟨w5, hw5⟩ : ∃ W, w4.alloc (.cells #[.int .i64 0, .int .i64 0, .int .i64 0, .int .i64 0] 34) = W := ⟨_, rfl⟩
    rw [hw5] at X5 V5 R5 T5 B5 RC5
    rw [hw5, hnb] at Y5
    rw [hw5, hnb]
    clear hw5 hnb
    refine RC5.out.mono ?_
    rintro e w6 ⟨rfl, b6⟩
    have Y6 := hid (Y5.out.below b6 Y5.out.lt)
    clear Y5 RC5
    have X6 := hid (X5.out.below b6 X5.out.lt)
    have V6 := hid (V5.out.below b6)
    have R6 := hid (R5.out.below b6)
    have T6 := hid (T5.out.below b6)
    have B6 := hid (B5.out.trans (b6.mono B5.out.size))
    clear b6 X5 V5 R5 T5 B5
    go_wp2_with fail
    refine (step_calls T6.out R6.out FW.out hm1).mono ?_
    rintro e w7 ⟨Q7, b7⟩
    have Y7 := hid (Y6.out.below b7 Y6.out.lt)
    clear Y6
    have X7 := hid (X6.out.below b7 X6.out.lt)
    have V7 := hid (V6.out.below b7)
    have R7 := hid (R6.out.below b7)
    have T7 := hid (T6.out.below b7)
    have B7 := hid (B6.out.trans (b7.mono B6.out.size))
    clear b7 X6 V6 R6 T6 B6
    rcases Q7 with ⟨_, na, nc, rfl, hI⟩ | ⟨ys2, _, _, _, h, _⟩
    rotate_left
    · rw [HSt.out] at h; cases h
    have N7 := hid hI
    clear hI
    have x0 := X7.out.cell0
    have x1 := X7.out.cell1
    have x2 := X7.out.cell2
    go_wp2_with fail
    refine (rstep_calls V7.out R7.out hnm hm1).mono ?_
    rintro e w8 ⟨Q8, b8⟩
    have Y8 := hid (Y7.out.below b8 Y7.out.lt)
    clear Y7 x0 x1 x2
    have X8 := hid (X7.out.below b8 X7.out.lt)
    have V8 := hid (V7.out.below b8)
    have R8 := hid (R7.out.below b8)
    have T8 := hid (T7.out.below b8)
    have B8 := hid (B7.out.trans (b8.mono B7.out.size))
    have N8 := hid (N7.out.below b8)
    clear b8 X7 V7 R7 T7 B7 N7
    rcases Q8 with ⟨_, ra, rc, rfl, hI⟩ | ⟨ys2, _, _, _, h, _⟩
    rotate_left
    · rw [HSt.out] at h; cases h
    have M8 := hid hI
    clear hI
    go_wp2_with fail
    refine (says_is (b := true) (same_calls N8.out M8.out) (by simp)).mono ?_
    rintro e w9 ⟨rfl, b9⟩
    have Y9 := hid (Y8.out.below b9 Y8.out.lt)
    clear Y8 M8
    have X9 := hid (X8.out.below b9 X8.out.lt)
    have V9 := hid (V8.out.below b9)
    have R9 := hid (R8.out.below b9)
    have T9 := hid (T8.out.below b9)
    have B9 := hid (B8.out.trans (b9.mono B8.out.size))
    have N9 := hid (N8.out.below b9)
    clear b9 X8 V8 R8 T8 B8 N8
    have eqq := fun w => Try.eqMg 0 0 0 0 w
    go_wp2_with fail
    refine (fixed_calls _).mono ?_
    rintro e w10 ⟨rfl, b10⟩
    have Y10 := hid (Y9.out.below b10 Y9.out.lt)
    have B10 := hid (B9.out.trans (b10.mono B9.out.size))
    clear b10
    have d0 := Y10.out.cell0
    have d1 := Y10.out.cell1
    have d2 := Y10.out.cell2
    have d3 := Y10.out.cell3
    go_wp2_with fail
    go_ret
    exact ⟨rfl, B10.out⟩
end Go.Proofs.Ytfgbpjajkmfkoaa
