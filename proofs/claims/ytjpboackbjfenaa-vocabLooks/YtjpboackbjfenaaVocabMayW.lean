/-
  The walk of the law VocabMay.
-/
import Derived.Test.YtjpboackbjfenaaVcF
import Derived.Test.YtjpboackbjfenaaVrW3
import Derived.Lib.QuietBelow
import Derived.Deep.QuietTactic
import Derived.BigQuiet
namespace Go.Proofs.Ytjpboackbjfenaa
open Go.RowKit Go.Maps
set_option linter.unusedVariables false

theorem says_is {P : Program} {f : FuncId} {args : Array Value} {w : World} {p : Prop} {b : Bool} {Q : World → Prop} (h : Calls P f args w fun e w' => Says e p ∧ Q w') (hb : b = true ↔ p) : Calls P f args w fun e w' => e = .returned (.bool b) ∧ Q w' :=
  h.mono fun e w' ⟨⟨t, h1, h2⟩, h3⟩ => ⟨by
    have : t = b := by
      cases t <;> cases b <;> simp_all
    rw [h1, this], h3⟩

set_option maxRecDepth 100000 in
set_option maxHeartbeats 3200000 in
theorem vocabMay_calls {w : World} {a am az : Option Addr} {n c nm cm ns cs : Nat} {ts : Vc.Toks} {ms : List Mg4} {sp : Vc.Sps} (V : Vo w a n c am nm cm az ns cs ts ms sp) :
    Calls Try.prog 3 #[.agg #[.slice a n c, .slice am nm cm, .slice az ns cs]] w fun e w' => e = .returned (.bool true) ∧ Below w.heap.size w w' := by
  have hl := V.T.len
  have B0 := hid ((Below.refl w.heap.size w).alloc (Nat.le_refl _) (.cells #[.slice a n c, .slice am nm cm, .slice az ns cs] 26))
  have X0 := hid (Bx3.new w 26 (.slice a n c) (.slice am nm cm) (.slice az ns cs))
  have V0 := hid (V.below B0.out)
  clear V
  obtain ⟨W, hW⟩ : ∃ W, w.alloc (.cells #[.slice a n c, .slice am nm cm, .slice az ns cs] 26) = W := ⟨_, rfl⟩
  rw [hW] at X0 V0 B0
  have k0 := fun d os => cell_regrown X0.out.cell0 d os
  have k1 := fun d os => cell_regrown X0.out.cell1 d os
  have k2 := fun d os => cell_regrown X0.out.cell2 d os
  have cF : ∀ d os, Calls Try.prog 10 #[] (Sort.grow (redrawn W d) os) fun e w'' => e = .returned (.bool true) ∧ ∃ p : Regrown, w'' = Sort.grow (redrawn W p.d) p.os := fun d os => Calls.regrown_of (fixed_calls _)
  by_cases hS : Vc.Small ts ms sp
  · have cG : ∀ d os, Calls Try.prog 9 #[.agg #[.slice a n c, .slice am nm cm, .slice az ns cs]] (Sort.grow (redrawn W d) os) fun e w'' => e = .returned (.bool false) ∧ ∃ p : Regrown, w'' = Sort.grow (redrawn W p.d) p.os := fun d os => Calls.regrown_of (says_is (rgreat_calls (V0.out.below (below_regrown W d os))) (by simp [hS]))
    obtain ⟨m, hm⟩ : ∃ m : Bool, m = true ↔ Vc.May ts ms sp := by
      by_cases h : Vc.May ts ms sp
      · exact ⟨true, by simp [h]⟩
      · exact ⟨false, by simp [h]⟩
    have cM : ∀ d os, Calls Try.prog 11 #[.agg #[.slice a n c, .slice am nm cm, .slice az ns cs]] (Sort.grow (redrawn W d) os) fun e w'' => e = .returned (.bool m) ∧ ∃ p : Regrown, w'' = Sort.grow (redrawn W p.d) p.os := fun d os => Calls.regrown_of (says_is (may_calls (V0.out.below (below_regrown W d os)) (fun i hi => Nat.le_trans (hS.tz i (by omega)) (by decide))) hm)
    have cR : ∀ d os, Calls Try.prog 12 #[.agg #[.slice a n c, .slice am nm cm, .slice az ns cs]] (Sort.grow (redrawn W d) os) fun e w'' => e = .returned (.bool m) ∧ ∃ p : Regrown, w'' = Sort.grow (redrawn W p.d) p.os := fun d os => Calls.regrown_of (says_is (rmay_calls (V0.out.below (below_regrown W d os)) (fun i hi => Nat.le_trans (hS.sz i hi) (by decide))) hm)
    clear hm hS V0 X0
    go_enter Try.func3, Try.ntmps3
    go_wp2_with fail
    try rw [hW]
    clear hW
    refine wp_region_quiet_below (by kernel_rfl) (by kernel_rfl) ?_
    cases m
    · repeat (any_goals (first | go_big_quiet_step (first | exact cF _ _ | exact cG _ _ | exact cM _ _ | exact cR _ _) | quiet_step (first | exact cF _ _ | exact cG _ _ | exact cM _ _ | exact cR _ _)))
      refine wpQuiet_nil ?_
      intro _ hw'
      obtain ⟨⟨dq, osq⟩, hw''⟩ := hw'
      subst hw''
      go_wp2_with fail
      go_ret
      exact ⟨rfl, B0.out.trans ((below_regrown _ dq osq).mono B0.out.size)⟩
    · repeat (any_goals (first | go_big_quiet_step (first | exact cF _ _ | exact cG _ _ | exact cM _ _ | exact cR _ _) | quiet_step (first | exact cF _ _ | exact cG _ _ | exact cM _ _ | exact cR _ _)))
      refine wpQuiet_nil ?_
      intro _ hw'
      obtain ⟨⟨dq, osq⟩, hw''⟩ := hw'
      subst hw''
      go_wp2_with fail
      go_ret
      exact ⟨rfl, B0.out.trans ((below_regrown _ dq osq).mono B0.out.size)⟩
  · have cG : ∀ d os, Calls Try.prog 9 #[.agg #[.slice a n c, .slice am nm cm, .slice az ns cs]] (Sort.grow (redrawn W d) os) fun e w'' => e = .returned (.bool true) ∧ ∃ p : Regrown, w'' = Sort.grow (redrawn W p.d) p.os := fun d os => Calls.regrown_of (says_is (rgreat_calls (V0.out.below (below_regrown W d os))) (by simp [hS]))
    clear hS V0 X0
    go_enter Try.func3, Try.ntmps3
    go_wp2_with fail
    try rw [hW]
    clear hW
    refine wp_region_quiet_below (by kernel_rfl) (by kernel_rfl) ?_
    repeat (any_goals (first | go_big_quiet_step (first | exact cF _ _ | exact cG _ _) | quiet_step (first | exact cF _ _ | exact cG _ _)))
    refine wpQuiet_nil ?_
    intro _ hw'
    obtain ⟨⟨dq, osq⟩, hw''⟩ := hw'
    subst hw''
    go_wp2_with fail
    go_ret
    exact ⟨rfl, B0.out.trans ((below_regrown _ dq osq).mono B0.out.size)⟩
end Go.Proofs.Ytjpboackbjfenaa
