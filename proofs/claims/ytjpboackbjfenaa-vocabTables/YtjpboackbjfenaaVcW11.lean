/-
  Walks of vocab.May, vocab.checked.
-/
import Derived.Test.YtjpboackbjfenaaVcW9
import Derived.Test.YtjpboackbjfenaaVcW10
import Derived.Test.YtjpboackbjfenaaVcW5
namespace Go.Proofs.Ytjpboackbjfenaa
open Go.RowKit Go.Maps
set_option linter.unusedVariables false

set_option maxRecDepth 100000 in
set_option maxHeartbeats 3200000 in
theorem may_calls {w : World} {a am az : Option Addr} {n c nm cm ns cs : Nat} {ts : Vc.Toks} {ms : List Mg4} {sp : Vc.Sps} (V : Vo w a n c am nm cm az ns cs ts ms sp) (hz : ∀ i, i < n → (at_ ts i).size ≤ maxLen) :
    Calls Try.prog 11 #[.agg #[.slice a n c, .slice am nm cm, .slice az ns cs]] w fun e w' => Says e (Vc.May ts ms sp) ∧ Below w.heap.size w w' := by
  have B0 := hid ((Below.refl w.heap.size w).alloc (Nat.le_refl _) (.cells #[.slice a n c, .slice am nm cm, .slice az ns cs] 26))
  have X0 := hid (Bx3.new w 26 (.slice a n c) (.slice am nm cm) (.slice az ns cs))
  have VW := hid V
  have V0 := hid (V.below B0.out)
  have HZ := hid hz
  clear V hz
  go_enter Try.func11, Try.ntmps11
  go_wp2_with fail
  refine (mayTokens_calls V0.out.T HZ.out).mono ?_
  rintro e w1 ⟨⟨t, rfl, ht⟩, b1⟩
  have HT := hid ht
  have X1 := hid (X0.out.below b1 X0.out.lt)
  have V1 := hid (V0.out.below b1)
  have B1 := hid (B0.out.trans (b1.mono B0.out.size))
  clear ht b1 X0 V0 B0
  cases t
  · have HN := hid (show ¬ Vc.May ts ms sp from fun h => absurd (HT.out.2 h.T) (by decide))
    go_wp2_with fail
    go_ret
    exact ⟨Says.no HN.out, B1.out⟩
  have H1 := hid (HT.out.1 rfl)
  have c0 := X1.out.cell0
  have c1 := X1.out.cell1
  have c2 := X1.out.cell2
  go_wp2_with fail
  refine (mayMerges_calls V1.out.T V1.out.M H1.out).mono ?_
  rintro e w2 ⟨⟨t, rfl, ht⟩, b1⟩
  have HU := hid ht
  have X2 := hid (X1.out.below b1 X1.out.lt)
  have V2 := hid (V1.out.below b1)
  have B2 := hid (B1.out.trans (b1.mono B1.out.size))
  clear ht b1 X1 V1 B1 c0 c1 c2 HT
  cases t
  · have HN := hid (show ¬ Vc.May ts ms sp from fun h => absurd (HU.out.2 h.M) (by decide))
    go_wp2_with fail
    go_ret
    exact ⟨Says.no HN.out, B2.out⟩
  have H2 := hid (HU.out.1 rfl)
  have c0 := X2.out.cell0
  have c1 := X2.out.cell1
  have c2 := X2.out.cell2
  go_wp2_with fail
  refine (isMerged_calls V2.out.T V2.out.M H1.out H2.out).mono ?_
  rintro e w3 ⟨⟨t, rfl, ht⟩, b1⟩
  have HV := hid ht
  have X3 := hid (X2.out.below b1 X2.out.lt)
  have V3 := hid (V2.out.below b1)
  have B3 := hid (B2.out.trans (b1.mono B2.out.size))
  clear ht b1 X2 V2 B2 c0 c1 c2 HU
  cases t
  · have HN := hid (show ¬ Vc.May ts ms sp from fun h => absurd (HV.out.2 h.O) (by decide))
    go_wp2_with fail
    go_ret
    exact ⟨Says.no HN.out, B3.out⟩
  have H3 := hid (HV.out.1 rfl)
  have c0 := X3.out.cell0
  have c1 := X3.out.cell1
  have c2 := X3.out.cell2
  go_wp2_with fail
  refine (maySpecials_calls V3.out.T V3.out.S).mono ?_
  rintro e w4 ⟨⟨t, rfl, ht⟩, b1⟩
  have HS := hid ht
  have B4 := hid (B3.out.trans (b1.mono B3.out.size))
  clear ht b1 X3 V3 B3 c0 c1 c2 HV
  cases t
  · have HN := hid (show ¬ Vc.May ts ms sp from fun h => absurd (HS.out.2 h.S) (by decide))
    go_wp2_with fail
    go_ret
    exact ⟨Says.no HN.out, B4.out⟩
  · have HN := hid (show Vc.May ts ms sp from ⟨H1.out, H2.out, H3.out, HS.out.1 rfl⟩)
    go_wp2_with fail
    go_ret
    exact ⟨Says.yes HN.out, B4.out⟩

/-- A block of three cells, as it is written: between the stores and behind them. -/
theorem ret_three {W : World} {R : Nat} {t : TypeId} {a b c : Value} (X : Bx3 W R t a b c) (x y z : Value) :
    Bx3 (W.setCell ⟨R, 0, none⟩ x) R t x b c ∧ Bx3 ((W.setCell ⟨R, 0, none⟩ x).setCell ⟨R, 1, none⟩ y) R t x y c ∧ Bx3 (three W R x y z) R t x y z :=
  ⟨X.set0 x, (X.set0 x).set1 y, X.three x y z⟩

/-- What checked answers. -/
def ChOut (a : Option Addr) (n c : Nat) (am : Option Addr) (nm cm : Nat) (az : Option Addr) (ns cs : Nat) (ts : Vc.Toks) (ms : List Mg4) (sp : Vc.Sps) (e : Ending) : Prop :=
  (Vc.May ts ms sp ∧ e = .returned (.tuple #[.agg #[.slice a n c, .slice am nm cm, .slice az ns cs], .int .i64 0])) ∨ (¬ Vc.May ts ms sp ∧ e = .returned (.tuple #[.agg #[.slice none 0 0, .slice none 0 0, .slice none 0 0], .int .i64 2]))

set_option maxRecDepth 100000 in
set_option maxHeartbeats 3200000 in
theorem checked_calls {w : World} {a am az : Option Addr} {n c nm cm ns cs : Nat} {ts : Vc.Toks} {ms : List Mg4} {sp : Vc.Sps} (V : Vo w a n c am nm cm az ns cs ts ms sp) (hz : ∀ i, i < n → (at_ ts i).size ≤ maxLen) :
    Calls Try.prog 35 #[.agg #[.slice a n c, .slice am nm cm, .slice az ns cs]] w fun e w' => ChOut a n c am nm cm az ns cs ts ms sp e ∧ Below w.heap.size w w' := by
  have B0 := hid (((Below.refl w.heap.size w).alloc (Nat.le_refl _) (.cells #[.slice a n c, .slice am nm cm, .slice az ns cs] 26)).alloc (by simp) (.cells #[.slice none 0 0, .slice none 0 0, .slice none 0 0] 26))
  have X0 := hid ((Bx3.new w 26 (.slice a n c) (.slice am nm cm) (.slice az ns cs)).alloc (.cells #[.slice none 0 0, .slice none 0 0, .slice none 0 0] 26))
  have R0 := hid (Bx3.new (w.alloc (.cells #[.slice a n c, .slice am nm cm, .slice az ns cs] 26)) 26 (.slice none 0 0) (.slice none 0 0) (.slice none 0 0))
  rw [show (w.alloc (.cells #[.slice a n c, .slice am nm cm, .slice az ns cs] 26)).heap.size = w.heap.size + 1 by simp] at R0
  have V0 := hid (V.below B0.out)
  have HZ := hid hz
  clear V hz
  have z0 := X0.out.cell0
  have z1 := X0.out.cell1
  have z2 := X0.out.cell2
  go_enter Try.func35, Try.ntmps35
  go_wp2_with fail
  refine (may_calls V0.out HZ.out).mono ?_
  rintro e w1 ⟨⟨t, rfl, ht⟩, b1⟩
  have HT := hid ht
  have X1 := hid (X0.out.below b1 X0.out.lt)
  have R1 := hid (R0.out.below b1 R0.out.lt)
  have B1 := hid (B0.out.trans (b1.mono B0.out.size))
  clear ht b1 X0 V0 B0 R0 z0 z1 z2
  have p0 := R1.out.cell0
  have p1 := R1.out.cell1
  have p2 := R1.out.cell2
  have q0 := R1.out.fr 0
  have q1 := R1.out.fr 1
  have q2 := R1.out.fr 2
  cases t
  · have HN := hid (show ¬ Vc.May ts ms sp from fun h => absurd (HT.out.2 h) (by decide))
    obtain ⟨y1, y2, y3⟩ := ret_three R1.out (.slice none 0 0) (.slice none 0 0) (.slice none 0 0)
    have BB := hid (below_three B1.out (R := w.heap.size + 1) (by omega) (.slice none 0 0) (.slice none 0 0) (.slice none 0 0))
    have u1 := y1.cell1
    have v1 := y1.fr 1
    have u2 := y2.cell2
    have v2 := y2.fr 2
    have r0 := y3.cell0
    have r1 := y3.cell1
    have r2 := y3.cell2
    unfold three at r0 r1 r2
    clear y1 y2 y3
    go_wp2_with fail
    refine bodyPost_ret (v := .tuple #[.agg #[.slice none 0 0, .slice none 0 0, .slice none 0 0], .int .i64 2]) (by simp [results, Try.results35, go_sem, r0, r1, r2]) rfl ?_
    exact ⟨.inr ⟨HN.out, rfl⟩, BB.out⟩
  · have HN := hid (HT.out.1 rfl)
    have z0 := X1.out.cell0
    have z1 := X1.out.cell1
    have z2 := X1.out.cell2
    obtain ⟨y1, y2, y3⟩ := ret_three R1.out (.slice a n c) (.slice am nm cm) (.slice az ns cs)
    have BB := hid (below_three B1.out (R := w.heap.size + 1) (by omega) (.slice a n c) (.slice am nm cm) (.slice az ns cs))
    have u1 := y1.cell1
    have v1 := y1.fr 1
    have u2 := y2.cell2
    have v2 := y2.fr 2
    have r0 := y3.cell0
    have r1 := y3.cell1
    have r2 := y3.cell2
    unfold three at r0 r1 r2
    clear y1 y2 y3
    go_wp2_with fail
    refine bodyPost_ret (v := .tuple #[.agg #[.slice a n c, .slice am nm cm, .slice az ns cs], .int .i64 0]) (by simp [results, Try.results35, go_sem, r0, r1, r2]) rfl ?_
    exact ⟨.inl ⟨HN.out, rfl⟩, BB.out⟩
end Go.Proofs.Ytjpboackbjfenaa
