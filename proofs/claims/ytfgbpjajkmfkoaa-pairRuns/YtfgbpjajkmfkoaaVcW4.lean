/-
  Walk of vocab.mayMerge.
-/
import Derived.Test.YtfgbpjajkmfkoaaVcW3
namespace Go.Proofs.Ytfgbpjajkmfkoaa
open Go.RowKit
set_option linter.unusedVariables false

set_option maxRecDepth 100000 in
set_option maxHeartbeats 3200000 in
theorem mayMerge_calls {w : World} {a am az : Option Addr} {n c nm cm ns cs : Nat} {ts : Vc.Toks} (V : Ts w a n c ts) (hT : Vc.MayT ts) (l r o d : Int) :
    Calls Try.prog 46 #[.agg #[.slice a n c, .slice am nm cm, .slice az ns cs], .agg #[.int .i64 l, .int .i64 r, .int .i64 o, .int .i64 d]] w fun e w' => Says e (Vc.OkM ts (l, r, o, d)) ∧ Below w.heap.size w w' := by
  have B0 := hid (((Below.refl w.heap.size w).alloc (Nat.le_refl _) (.cells #[.slice a n c, .slice am nm cm, .slice az ns cs] 26)).alloc (by simp) (.cells #[.int .i64 l, .int .i64 r, .int .i64 o, .int .i64 d] 34))
  have X1 := hid ((Bx3.new w 26 (.slice a n c) (.slice am nm cm) (.slice az ns cs)).alloc (.cells #[.int .i64 l, .int .i64 r, .int .i64 o, .int .i64 d] 34))
  have X2 := hid (Bx4.new (w.alloc (.cells #[.slice a n c, .slice am nm cm, .slice az ns cs] 26)) 34 (.int .i64 l) (.int .i64 r) (.int .i64 o) (.int .i64 d))
  have T0 := hid (V.below B0.out)
  rw [show (w.alloc (.cells #[.slice a n c, .slice am nm cm, .slice az ns cs] 26)).heap.size = w.heap.size + 1 by simp] at X2
  have HT := hid hT
  clear V hT
  go_enter Try.func46, Try.ntmps46
  go_wp2_with fail
  refine (bytes_calls T0.out l).mono ?_
  rintro e w1 ⟨E1, b1⟩
  have B1 := hid (B0.out.trans (b1.mono B0.out.size))
  have T1 := hid (T0.out.below b1)
  have Y1 := hid (X1.out.below b1 X1.out.lt)
  have Y2 := hid (X2.out.below b1 X2.out.lt)
  clear b1 X1 X2 B0 T0
  have c10 := Y1.out.cell0
  have c11 := Y1.out.cell1
  have c12 := Y1.out.cell2
  have c21 := Y2.out.cell1
  obtain ⟨s1, t1, h1, rfl⟩ : ∃ s t, ((t = true ∧ Vc.Is ts l ∧ s = Vc.tok ts l) ∨ (t = false ∧ ¬ Vc.Is ts l)) ∧ e = .returned (.tuple #[.string s, .bool t]) := by
    rcases E1 with ⟨h, rfl⟩ | ⟨h, rfl⟩
    · exact ⟨_, _, Or.inl ⟨rfl, h, rfl⟩, rfl⟩
    · exact ⟨_, _, Or.inr ⟨rfl, h⟩, rfl⟩
  have H1 := hid h1
  clear h1 E1
  go_wp2_with fail
  refine (bytes_calls T1.out r).mono ?_
  rintro e w2 ⟨E1, b1⟩
  have B2 := hid (B1.out.trans (b1.mono B1.out.size))
  have T2 := hid (T1.out.below b1)
  have Z1 := hid (Y1.out.below b1 Y1.out.lt)
  have Z2 := hid (Y2.out.below b1 Y2.out.lt)
  clear b1 Y1 Y2 B1 T1 c10 c11 c12 c21
  have c10 := Z1.out.cell0
  have c11 := Z1.out.cell1
  have c12 := Z1.out.cell2
  have c22 := Z2.out.cell2
  obtain ⟨s2, t2, h2, rfl⟩ : ∃ s t, ((t = true ∧ Vc.Is ts r ∧ s = Vc.tok ts r) ∨ (t = false ∧ ¬ Vc.Is ts r)) ∧ e = .returned (.tuple #[.string s, .bool t]) := by
    rcases E1 with ⟨h, rfl⟩ | ⟨h, rfl⟩
    · exact ⟨_, _, Or.inl ⟨rfl, h, rfl⟩, rfl⟩
    · exact ⟨_, _, Or.inr ⟨rfl, h⟩, rfl⟩
  have H2 := hid h2
  clear h2 E1
  go_wp2_with fail
  refine (bytes_calls T2.out o).mono ?_
  rintro e w3 ⟨E1, b1⟩
  have B3 := hid (B2.out.trans (b1.mono B2.out.size))
  have V2 := hid (Z2.out.below b1 Z2.out.lt)
  clear b1 Z1 Z2 B2 T2 c10 c11 c12 c22
  have c23 := V2.out.cell3
  obtain ⟨s3, t3, h3, rfl⟩ : ∃ s t, ((t = true ∧ Vc.Is ts o ∧ s = Vc.tok ts o) ∨ (t = false ∧ ¬ Vc.Is ts o)) ∧ e = .returned (.tuple #[.string s, .bool t]) := by
    rcases E1 with ⟨h, rfl⟩ | ⟨h, rfl⟩
    · exact ⟨_, _, Or.inl ⟨rfl, h, rfl⟩, rfl⟩
    · exact ⟨_, _, Or.inr ⟨rfl, h⟩, rfl⟩
  have H3 := hid h3
  clear h3 E1
  cases t1
  · have HN := hid (show ¬ Vc.OkM ts (l, r, o, d) from fun h => by
      rcases H1.out with h' | h'
      · exact absurd h'.1 (by decide)
      · exact h'.2 h.1)
    go_wp2_with fail
    go_ret
    exact ⟨Says.no HN.out, B3.out⟩
  cases t2
  · have HN := hid (show ¬ Vc.OkM ts (l, r, o, d) from fun h => by
      rcases H2.out with h' | h'
      · exact absurd h'.1 (by decide)
      · exact h'.2 h.2.1)
    go_wp2_with fail
    go_ret
    exact ⟨Says.no HN.out, B3.out⟩
  cases t3
  · have HN := hid (show ¬ Vc.OkM ts (l, r, o, d) from fun h => by
      rcases H3.out with h' | h'
      · exact absurd h'.1 (by decide)
      · exact h'.2 h.2.2.1)
    go_wp2_with fail
    go_ret
    exact ⟨Says.no HN.out, B3.out⟩
  obtain ⟨i1, q1⟩ : Vc.Is ts l ∧ s1 = Vc.tok ts l := by
    rcases H1.out with h' | h'
    · exact h'.2
    · exact absurd h'.1 (by decide)
  obtain ⟨i2, q2⟩ : Vc.Is ts r ∧ s2 = Vc.tok ts r := by
    rcases H2.out with h' | h'
    · exact h'.2
    · exact absurd h'.1 (by decide)
  obtain ⟨i3, q3⟩ : Vc.Is ts o ∧ s3 = Vc.tok ts o := by
    rcases H3.out with h' | h'
    · exact h'.2
    · exact absurd h'.1 (by decide)
  have I1 := hid i1
  have I2 := hid i2
  have I3 := hid i3
  have Q1 := hid q1
  have Q2 := hid q2
  have Q3 := hid q3
  have hz : ¬ 9223372036854775807 < s1.size + s2.size := by
    have z1 := HT.out.sz l.toNat (by have := i1.2.1; have := i1.1; omega)
    have z2 := HT.out.sz r.toNat (by have := i2.2.1; have := i2.1; omega)
    rw [q1, q2]; simp only [Vc.tok]; omega
  clear H1 H2 H3 i1 i2 i3 q1 q2 q3
  by_cases hs : s3 = s1 ++ s2
  · have HS := hid (show Vc.tok ts o = Vc.tok ts l ++ Vc.tok ts r by rw [← Q1.out, ← Q2.out, ← Q3.out, hs])
    subst hs
    clear Q1 Q2 Q3
    by_cases h0 : 0 ≤ d
    · by_cases h4 : d ≤ 1048576
      · have HN := hid (show Vc.OkM ts (l, r, o, d) from ⟨I1.out, I2.out, I3.out, HS.out, h0, h4⟩)
        go_wp2_with fail
        go_ret
        exact ⟨Says.yes HN.out, B3.out⟩
      · have HN := hid (show ¬ Vc.OkM ts (l, r, o, d) from fun h => h4 h.2.2.2.2.2)
        have k4 : decide (d ≤ 1048576) = false := decide_eq_false h4
        go_wp2_with fail
        go_ret
        exact ⟨Says.no HN.out, B3.out⟩
    · have HN := hid (show ¬ Vc.OkM ts (l, r, o, d) from fun h => h0 h.2.2.2.2.1)
      have k4 : decide (0 ≤ d) = false := decide_eq_false h0
      go_wp2_with fail
      go_ret
      exact ⟨Says.no HN.out, B3.out⟩
  · have HN := hid (show ¬ Vc.OkM ts (l, r, o, d) from fun h => hs (by rw [Q1.out, Q2.out, Q3.out]; exact h.2.2.2.1))
    have hs' : ¬ s3.toList = (s1 ++ s2).toList := fun h => hs (ba_eq h)
    have hs2 : (s3.toList == (s1 ++ s2).toList) = false := beq_eq_false_iff_ne.mpr hs'
    go_wp2_with fail
    go_ret
    exact ⟨Says.no HN.out, B3.out⟩
end Go.Proofs.Ytfgbpjajkmfkoaa
