/-
  Walks of vocab.May, vocab.checked.
-/
import Derived.Test.YtfgbpjajkmfkoaaVcW9
import Derived.Test.YtfgbpjajkmfkoaaVcW10
import Derived.Test.YtfgbpjajkmfkoaaVcW5
namespace Go.Proofs.Ytfgbpjajkmfkoaa
open Go.RowKit Go.Maps
set_option linter.unusedVariables false

set_option maxRecDepth 100000 in
set_option maxHeartbeats 3200000 in
theorem may_calls {w : World} {a am az : Option Addr} {n c nm cm ns cs : Nat} {ts : Vc.Toks} {ms : List Mg4} {sp : Vc.Sps} (V : Vo w a n c am nm cm az ns cs ts ms sp) (hz : ∀ i, i < n → (at_ ts i).size ≤ maxLen) :
    Calls Try.prog 24 #[.agg #[.slice a n c, .slice am nm cm, .slice az ns cs]] w fun e w' => Says e (Vc.May ts ms sp) ∧ Below w.heap.size w w' := by
  have B0 := hid ((Below.refl w.heap.size w).alloc (Nat.le_refl _) (.cells #[.slice a n c, .slice am nm cm, .slice az ns cs] 26))
  have X0 := hid (Bx3.new w 26 (.slice a n c) (.slice am nm cm) (.slice az ns cs))
  have VW := hid V
  have V0 := hid (V.below B0.out)
  have HZ := hid hz
  clear V hz
  go_enter Try.func24, Try.ntmps24
  go_wp2_with fail
  refine (mayTokens_calls V0.out.T HZ.out).mono ?_
  rintro e w1 ⟨⟨t, rfl, ht⟩, b1⟩
  have HT := hid ht
  have X1 := hid (X0.out.below b1 X0.out.lt)
  have V1 := hid (V0.out.below b1)
  have B1 := hid (B0.out.trans (b1.mono B0.out.size))
  clear ht b1 X0 V0 B0
  cases t
  · have HN := hid (show ¬ Vc.May ts ms sp from fun h => absurd (HT.out.2 h.T) (by decide))
    go_wp2_with fail
    go_ret
    exact ⟨Says.no HN.out, B1.out⟩
  have H1 := hid (HT.out.1 rfl)
  have c0 := X1.out.cell0
  have c1 := X1.out.cell1
  have c2 := X1.out.cell2
  go_wp2_with fail
  refine (mayMerges_calls V1.out.T V1.out.M H1.out).mono ?_
  rintro e w2 ⟨⟨t, rfl, ht⟩, b1⟩
  have HU := hid ht
  have X2 := hid (X1.out.below b1 X1.out.lt)
  have V2 := hid (V1.out.below b1)
  have B2 := hid (B1.out.trans (b1.mono B1.out.size))
  clear ht b1 X1 V1 B1 c0 c1 c2 HT
  cases t
  · have HN := hid (show ¬ Vc.May ts ms sp from fun h => absurd (HU.out.2 h.M) (by decide))
    go_wp2_with fail
    go_ret
    exact ⟨Says.no HN.out, B2.out⟩
  have H2 := hid (HU.out.1 rfl)
  have c0 := X2.out.cell0
  have c1 := X2.out.cell1
  have c2 := X2.out.cell2
  go_wp2_with fail
  refine (isMerged_calls V2.out.T V2.out.M H1.out H2.out).mono ?_
  rintro e w3 ⟨⟨t, rfl, ht⟩, b1⟩
  have HV := hid ht
  have X3 := hid (X2.out.below b1 X2.out.lt)
  have V3 := hid (V2.out.below b1)
  have B3 := hid (B2.out.trans (b1.mono B2.out.size))
  clear ht b1 X2 V2 B2 c0 c1 c2 HU
  cases t
  · have HN := hid (show ¬ Vc.May ts ms sp from fun h => absurd (HV.out.2 h.O) (by decide))
    go_wp2_with fail
    go_ret
    exact ⟨Says.no HN.out, B3.out⟩
  have H3 := hid (HV.out.1 rfl)
  have c0 := X3.out.cell0
  have c1 := X3.out.cell1
  have c2 := X3.out.cell2
  go_wp2_with fail
  refine (maySpecials_calls V3.out.T V3.out.S).mono ?_
  rintro e w4 ⟨⟨t, rfl, ht⟩, b1⟩
  have HS := hid ht
  have B4 := hid (B3.out.trans (b1.mono B3.out.size))
  clear ht b1 X3 V3 B3 c0 c1 c2 HV
  cases t
  · have HN := hid (show ¬ Vc.May ts ms sp from fun h => absurd (HS.out.2 h.S) (by decide))
    go_wp2_with fail
    go_ret
    exact ⟨Says.no HN.out, B4.out⟩
  · have HN := hid (show Vc.May ts ms sp from ⟨H1.out, H2.out, H3.out, HS.out.1 rfl⟩)
    go_wp2_with fail
    go_ret
    exact ⟨Says.yes HN.out, B4.out⟩

/-- A block of three cells, as it is written: between the stores and behind them. -/
theorem ret_three {W : World} {R : Nat} {t : TypeId} {a b c : Value} (X : Bx3 W R t a b c) (x y z : Value) :
    Bx3 (W.setCell ⟨R, 0, none⟩ x) R t x b c ∧ Bx3 ((W.setCell ⟨R, 0, none⟩ x).setCell ⟨R, 1, none⟩ y) R t x y c ∧ Bx3 (three W R x y z) R t x y z :=
  ⟨X.set0 x, (X.set0 x).set1 y, X.three x y z⟩

/-- What checked answers. -/
def ChOut (a : Option Addr) (n c : Nat) (am : Option Addr) (nm cm : Nat) (az : Option Addr) (ns cs : Nat) (ts : Vc.Toks) (ms : List Mg4) (sp : Vc.Sps) (e : Ending) : Prop :=
  (Vc.May ts ms sp ∧ e = .returned (.tuple #[.agg #[.slice a n c, .slice am nm cm, .slice az ns cs], .int .i64 0])) ∨ (¬ Vc.May ts ms sp ∧ e = .returned (.tuple #[.agg #[.slice none 0 0, .slice none 0 0, .slice none 0 0], .int .i64 2]))

end Go.Proofs.Ytfgbpjajkmfkoaa
