/-
  The walk of the law PairFinds.
-/
import Derived.Test.YtfgbpjajkmfkoaaLotP
import Derived.Lib.QuietBelow
import Derived.Deep.QuietTactic
import Derived.BigQuiet
namespace Go.Proofs.Ytfgbpjajkmfkoaa
open Go.RowKit Go.Maps
set_option linter.unusedVariables false

set_option maxRecDepth 100000 in
set_option maxHeartbeats 6400000 in
theorem pairFinds_calls {w : World} {a am az : Option Addr} {n c nm cm ns cs : Nat} {ts : Vc.Toks} {ms : List Mg4} {sp : Vc.Sps} (V : Vo w a n c am nm cm az ns cs ts ms sp) (l r : Int) (hwl : (Lit.int .i64 l).wf = true) (hwr : (Lit.int .i64 r).wf = true) :
    Calls Try.prog 3 #[.agg #[.slice a n c, .slice am nm cm, .slice az ns cs], .int .i64 l, .int .i64 r] w fun e w' => e = .returned (.bool true) ∧ Below w.heap.size w w' := by
  have hl := V.T.len
  have hlm := V.M.len
  have hls := V.S.len
  have B0 := hid ((Below.refl w.heap.size w).alloc (Nat.le_refl _) (.cells #[.slice a n c, .slice am nm cm, .slice az ns cs] 26))
  have X0 := hid (Bx3.new w 26 (.slice a n c) (.slice am nm cm) (.slice az ns cs))
  have V0 := hid (V.below B0.out)
  clear V
  have x0 := X0.out.cell0
  have x1 := X0.out.cell1
  have x2 := X0.out.cell2
  go_enter Try.func3, Try.ntmps3
  go_wp2_with fail
  refine (rgreat_calls V0.out).mono ?_
  rintro e w1 ⟨⟨g, rfl, hg⟩, b1⟩
  have X1 := hid (X0.out.below b1 X0.out.lt)
  have V1 := hid (V0.out.below b1)
  have B1 := hid (B0.out.trans (b1.mono B0.out.size))
  have HG := hid hg
  clear hg b1 X0 V0 B0 x0 x1 x2
  cases g
  rotate_left
  · skip
    go_wp2_with fail
    refine (fixed_calls _).mono ?_
    rintro e wf ⟨rfl, bf⟩
    have BF := hid (B1.out.trans (bf.mono B1.out.size))
    clear bf
    go_wp2_with fail
    go_ret
    exact ⟨rfl, BF.out⟩
  have HSm := hid (show Vc.Small ts ms sp from Classical.byContradiction fun h => absurd (HG.out.2 h) (by decide))
  clear HG
  have hnm : nm ≤ 1000000 := by have := HSm.out.m; omega
  have x0 := X1.out.cell0
  have x1 := X1.out.cell1
  have x2 := X1.out.cell2
  go_wp2_with fail
  refine (new_calls V1.out (fun i hi => Nat.le_trans (HSm.out.tz i (by omega)) (by decide))).mono ?_
  rintro e w2 ⟨E2, b2⟩
  have X2 := hid (X1.out.below b2 X1.out.lt)
  have V2 := hid (V1.out.below b2)
  have B2 := hid (B1.out.trans (b2.mono B1.out.size))
  clear b2 X1 V1 B1 x0 x1 x2
  have x0 := X2.out.cell0
  have x1 := X2.out.cell1
  have x2 := X2.out.cell2
  rcases E2 with ⟨hM, B, rfl, hT⟩ | ⟨hM, rfl⟩
  rotate_left
  · have HM := hid hM
    clear hM
    go_wp2_with fail
    refine (says_is (b := false) (rmay_calls V2.out (fun i hi => Nat.le_trans (HSm.out.sz i hi) (by decide))) (by simp [HM.out])).mono ?_
    rintro e w3 ⟨rfl, b3⟩
    have B3 := hid (B2.out.trans (b3.mono B2.out.size))
    clear b3 X2 V2 B2 x0 x1 x2
    go_wp2_with fail
    refine (fixed_calls _).mono ?_
    rintro e wf ⟨rfl, bf⟩
    have BF := hid (B3.out.trans (bf.mono B3.out.size))
    clear bf
    go_wp2_with fail
    go_ret
    exact ⟨rfl, BF.out⟩
  have HT := hid hT
  have HM := hid hM
  clear hT hM
  go_wp2_with fail
  refine (says_is (b := true) (rmay_calls V2.out (fun i hi => Nat.le_trans (HSm.out.sz i hi) (by decide))) (by simp [HM.out])).mono ?_
  rintro e w3 ⟨rfl, b3⟩
  have X3 := hid (X2.out.below b3 X2.out.lt)
  have V3 := hid (V2.out.below b3)
  have B3 := hid (B2.out.trans (b3.mono B2.out.size))
  have T3 := hid (HT.out.below b3)
  clear b3 X2 V2 B2 HT x0 x1 x2
  have hways : (∃ k x0 x1 x2 x3, Pr.fz ms l r = ((k : Nat) : Int) ∧ k < nm ∧ mat ms k = (x0, x1, x2, x3) ∧ Pr.fm ms l r = (x0, x1, x2, x3) ∧ Pr.fb ms l r = true) ∨ (Pr.fz ms l r = -1 ∧ Pr.fm ms l r = (0, 0, 0, 0) ∧ Pr.fb ms l r = false) := by
    unfold Pr.fz Pr.fm Pr.fb
    cases hf : Pr.fnd ms l r with
    | some k => exact .inl ⟨k, (mat ms k).1, (mat ms k).2.1, (mat ms k).2.2.1, (mat ms k).2.2.2, rfl, by have := (Pr.fnd_some hf).1; omega, rfl, rfl, rfl⟩
    | none => exact .inr ⟨rfl, rfl, rfl⟩
  rcases hways with ⟨k, y0, y1, y2, y3, hz, hk, hm, hfm, hfb⟩ | ⟨hz, hfm, hfb⟩
  · skip
    have FC := hid (find_is T3.out l r hwl hwr hfm hfb)
    have RC := hid (show ∀ W, Below w3.heap.size w3 W → Calls Try.prog 13 #[.agg #[.slice a n c, .slice am nm cm, .slice az ns cs], .int .i64 l, .int .i64 r] W fun e w' => e = .returned (.int .i64 (k)) ∧ Below W.heap.size W w' from fun W hW => by
      have := rfind_calls (a := a) (n := n) (c := c) (az := az) (ns := ns) (cs := cs) (V3.out.M.below hW) l r hnm
      rw [hz] at this
      exact this)
    clear hz hfm hfb
    have HK := hid hm
    clear hm
    go_wp2_with fail
    refine FC.out.mono ?_
    rintro e w4 ⟨rfl, b4⟩
    have b5 := b4.alloc b4.size (.cells #[.int .i64 y0, .int .i64 y1, .int .i64 y2, .int .i64 y3] 34)
    have Y5 := hid (Bx4.new w4 34 (.int .i64 y0) (.int .i64 y1) (.int .i64 y2) (.int .i64 y3))
    have X5 := hid (X3.out.below b5 X3.out.lt)
    have B5 := hid (B3.out.trans (b5.mono B3.out.size))
    have V5 := hid (V3.out.below b5)
    have R5 := hid (RC.out _ b5)
    clear b4 b5 X3 V3 B3 T3 FC RC
    have x0 := X5.out.cell0
    have x1 := X5.out.cell1
    have x2 := X5.out.cell2
    go_wp2_with fail
    clear x0 x1 x2
    obtain ⟨nb, hnb⟩ : ∃ nb, w4.heap.size = nb := ⟨_, rfl⟩
    obtain ⟨w5, hw5⟩ : ∃ W, w4.alloc (.cells #[.int .i64 y0, .int .i64 y1, .int .i64 y2, .int .i64 y3] 34) = W := ⟨_, rfl⟩
    rw [hw5] at X5 B5 V5 R5
    rw [hw5, hnb] at Y5
    rw [hw5, hnb]
    clear hw5 hnb
    refine R5.out.mono ?_
    rintro e w6 ⟨rfl, b6⟩
    have Y6 := hid (Y5.out.below b6 Y5.out.lt)
    have X6 := hid (X5.out.below b6 X5.out.lt)
    have B6 := hid (B5.out.trans (b6.mono B5.out.size))
    have V6 := hid (V5.out.below b6)
    clear b6 X5 V5 B5 Y5 R5
    have cF : ∀ d os, Calls Try.prog 9 #[] (Sort.grow (redrawn w6 d) os) fun e w'' => e = .returned (.bool true) ∧ ∃ p : Regrown, w'' = Sort.grow (redrawn w6 p.d) p.os := fun d os => Calls.regrown_of (fixed_calls _)
    have d0 := fun d os => cell_regrown Y6.out.cell0 d os
    have d1 := fun d os => cell_regrown Y6.out.cell1 d os
    have d2 := fun d os => cell_regrown Y6.out.cell2 d os
    have d3 := fun d os => cell_regrown Y6.out.cell3 d os
    have eqq := fun w => Try.eqMg y0 y1 y2 y3 w
    have x1 := fun d os => cell_regrown X6.out.cell1 d os
    obtain ⟨b7, o7, rfl, hb7, hc7⟩ := V6.out.M.at' (by omega)
    obtain ⟨q0, q1, q2, q3⟩ := hc7 k hk
    rw [HK.out] at q0 q1 q2 q3
    have z0 := fun d os => cell_regrown q0 d os
    have z1 := fun d os => cell_regrown q1 d os
    have z2 := fun d os => cell_regrown q2 d os
    have z3 := fun d os => cell_regrown q3 d os
    have g0 : (0 : Int) ≤ k := by omega
    have g1 : (k : Int) < nm := by omega
    clear hc7 q0 q1 q2 q3 HK
    go_wp2_with fail
    refine wp_region_quiet_below (by kernel_rfl) (by kernel_rfl) ?_
    repeat (any_goals (first | go_big_quiet_step (exact cF _ _) | quiet_step (exact cF _ _)))
    refine wpQuiet_nil ?_
    intro _ hw'
    obtain ⟨⟨dq, osq⟩, hw''⟩ := hw'
    subst hw''
    go_wp2_with fail
    go_ret
    exact ⟨rfl, B6.out.trans ((below_regrown _ dq osq).mono B6.out.size)⟩
  · skip
    have FC := hid (find_is T3.out l r hwl hwr hfm hfb)
    have RC := hid (show ∀ W, Below w3.heap.size w3 W → Calls Try.prog 13 #[.agg #[.slice a n c, .slice am nm cm, .slice az ns cs], .int .i64 l, .int .i64 r] W fun e w' => e = .returned (.int .i64 (-1)) ∧ Below W.heap.size W w' from fun W hW => by
      have := rfind_calls (a := a) (n := n) (c := c) (az := az) (ns := ns) (cs := cs) (V3.out.M.below hW) l r hnm
      rw [hz] at this
      exact this)
    clear hz hfm hfb
    go_wp2_with fail
    refine FC.out.mono ?_
    rintro e w4 ⟨rfl, b4⟩
    have b5 := b4.alloc b4.size (.cells #[.int .i64 0, .int .i64 0, .int .i64 0, .int .i64 0] 34)
    have Y5 := hid (Bx4.new w4 34 (.int .i64 0) (.int .i64 0) (.int .i64 0) (.int .i64 0))
    have X5 := hid (X3.out.below b5 X3.out.lt)
    have B5 := hid (B3.out.trans (b5.mono B3.out.size))
    have V5 := hid (V3.out.below b5)
    have R5 := hid (RC.out _ b5)
    clear b4 b5 X3 V3 B3 T3 FC RC
    have x0 := X5.out.cell0
    have x1 := X5.out.cell1
    have x2 := X5.out.cell2
    go_wp2_with fail
    clear x0 x1 x2
    obtain ⟨nb, hnb⟩ : ∃ nb, w4.heap.size = nb := ⟨_, rfl⟩
    obtain ⟨w5, hw5⟩ : ∃ W, w4.alloc (.cells #[.int .i64 0, .int .i64 0, .int .i64 0, .int .i64 0] 34) = W := ⟨_, rfl⟩
    rw [hw5] at X5 B5 V5 R5
    rw [hw5, hnb] at Y5
    rw [hw5, hnb]
    clear hw5 hnb
    refine R5.out.mono ?_
    rintro e w6 ⟨rfl, b6⟩
    have Y6 := hid (Y5.out.below b6 Y5.out.lt)
    have X6 := hid (X5.out.below b6 X5.out.lt)
    have B6 := hid (B5.out.trans (b6.mono B5.out.size))
    have V6 := hid (V5.out.below b6)
    clear b6 X5 V5 B5 Y5 R5
    have cF : ∀ d os, Calls Try.prog 9 #[] (Sort.grow (redrawn w6 d) os) fun e w'' => e = .returned (.bool true) ∧ ∃ p : Regrown, w'' = Sort.grow (redrawn w6 p.d) p.os := fun d os => Calls.regrown_of (fixed_calls _)
    have d0 := fun d os => cell_regrown Y6.out.cell0 d os
    have d1 := fun d os => cell_regrown Y6.out.cell1 d os
    have d2 := fun d os => cell_regrown Y6.out.cell2 d os
    have d3 := fun d os => cell_regrown Y6.out.cell3 d os
    have eqq := fun w => Try.eqMg 0 0 0 0 w
    go_wp2_with fail
    refine wp_region_quiet_below (by kernel_rfl) (by kernel_rfl) ?_
    repeat (any_goals (first | go_big_quiet_step (exact cF _ _) | quiet_step (exact cF _ _)))
    refine wpQuiet_nil ?_
    intro _ hw'
    obtain ⟨⟨dq, osq⟩, hw''⟩ := hw'
    subst hw''
    go_wp2_with fail
    go_ret
    exact ⟨rfl, B6.out.trans ((below_regrown _ dq osq).mono B6.out.size)⟩
end Go.Proofs.Ytfgbpjajkmfkoaa
