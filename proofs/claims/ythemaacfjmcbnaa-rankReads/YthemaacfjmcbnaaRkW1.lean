/-
  The walk of rank.rowOf.
-/
import Derived.Test.YthemaacfjmcbnaaRkMath
import Derived.Test.YthemaacfjmcbnaaLnN1
import Derived.Test.YthemaacfjmcbnaaB6D
namespace Go.Proofs.Ythemaacfjmcbnaa
open Go.RowKit
set_option linter.unusedVariables false

/-- What rowOf answers. -/
def RowOut (s : ByteArray) (e : Ending) : Prop :=
  (Rk.Er s 0 ∧ e = .returned (.tuple #[.agg #[.string (Rk.tok s), .int .i64 (Rk.num s)], .int .i64 0])) ∨
  (∃ c, Rk.Er s c ∧ c ≠ 0 ∧ e = .returned (.tuple #[.agg #[.string ⟨#[]⟩, .int .i64 0], .int .i64 c]))

set_option maxRecDepth 100000 in
set_option maxHeartbeats 3200000 in
theorem rowOf_calls (s : ByteArray) (w : World) (hsz : s.size ≤ 100000) :
    Calls Try.prog 9 #[.string s] w fun e w' => RowOut s e ∧ Below w.heap.size w w' := by
  go_enter Try.func9, Try.ntmps9
  go_wp2_with fail
  refine (words_calls s _ hsz).mono ?_
  rintro e w1 ⟨ho, hb1⟩
  have X1 := hid ((Bx2.new w 34 (.string ⟨#[]⟩) (.int .i64 0)).below hb1 (by simp))
  have B1 := hid (((Below.refl w.heap.size w).alloc (Nat.le_refl _) (.cells #[.string ⟨#[]⟩, .int .i64 0] 34)).trans (hb1.mono (by simp)))
  clear hb1
  rcases ho with ⟨hg, a, k, cap, rfl, ht⟩ | ⟨hbad, rfl⟩
  · have hw : wds s = ps 32 s := by unfold wds ps; rw [show Ln.words (by_ s) = _ from hg]
    rw [← hw] at ht
    have hl := ht.len
    by_cases hk : k = 2
    · subst hk
      obtain ⟨b, off, rfl, _, hc⟩ := ht.at' (by omega)
      have q0 : w1.cell? ⟨b, off, none⟩ = some (.string (Rk.w0 s)) := hc 0 (by omega)
      have q1 : w1.cell? ⟨b, off + 1, none⟩ = some (.string (Rk.w1 s)) := hc 1 (by omega)
      have HL := hid hl
      have z0 : (Rk.w0 s).size ≤ s.size := Rk.wds_le
      have z1 : (Rk.w1 s).size ≤ s.size := Rk.wds_le
      have hbl := World.block_lt_of_cell? _ _ q0
      clear hc ht hg hw hl
      go_wp2_with fail
      refine (b6decode_calls (Rk.w0 s) (Rk.w0 s).size (bytesF (Rk.w0 s)) _ (by omega) (St.any _)).mono ?_
      rintro e w2 ⟨ho, hb2⟩
      have B2 := hid (B1.out.trans (hb2.mono B1.out.size))
      have X2 := hid (X1.out.below hb2 X1.out.lt)
      rw [← hb2.cell (p := ⟨b, off + 1, none⟩) hbl] at q1
      clear q0 hb2
      rcases ho with ⟨hG, a2, c2, rfl, hs2⟩ | ⟨p, hp, rfl⟩
      · have HG := hid hG
        have S2 := hid hs2
        clear hG hs2
        go_wp2_with fail
        refine (number_calls (Rk.w1 s) (Rk.w1 s).size (bytesF (Rk.w1 s)) _ (by omega) (St.any _)).mono ?_
        rintro e w3 ⟨ho, hw3⟩
        subst hw3
        rcases ho with ⟨hN, rfl⟩ | ⟨hN, rfl⟩
        · have HF := hid (show Rk.Form s from ⟨HL.out, HG.out, hN⟩)
          obtain ⟨M, hM⟩ : ∃ M, B6.decN (bytesF (Rk.w0 s)) (Rk.w0 s).size = M := ⟨_, rfl⟩
          have ht := Rk.tok_size s
          rw [hM] at S2 ht ⊢
          rw [show Ln.vF (bytesF (Rk.w1 s)) (Rk.w1 s).size = Rk.num s from rfl]
          have cv := run_convert_sl (P := Try.prog) w3 22 5 9 Try.underlying22 Try.underlying5 Try.underlying9 S2.out
          have HT := hid (show Rk.tok s = str (B6.decF (bytesF (Rk.w0 s))) M by unfold Rk.tok; rw [hM])
          clear hM hN
          by_cases h64 : 64 < M
          · have h64' : (64 : Int) < M := by omega
            have q0' := X2.out.cell0
            have q1' := X2.out.cell1
            have p0' := X2.out.fr0
            have p1' := X2.out.fr1
            have X3 := X2.out.set0 (.string ⟨#[]⟩)
            have q3 := X3.cell1
            have p3 := X3.fr1
            have X4 := X3.set1 (.int .i64 0)
            have r0 := X4.cell0
            have r1 := X4.cell1
            have BB := hid (below_two B2.out (Nat.le_refl _) (.string ⟨#[]⟩) (.int .i64 0))
            clear X3 X4
            go_wp2_with fail
            refine bodyPost_ret (v := .tuple #[.agg #[.string ⟨#[]⟩, .int .i64 0], .int .i64 7]) (by simp [results, Try.results9, go_sem, r0, r1]) rfl ?_
            exact ⟨.inr ⟨7, .inr (.inl ⟨HF.out, by omega, rfl⟩), by omega, rfl⟩, BB.out⟩
          · have h64' : ¬ (64 : Int) < M := by omega
            rw [← HT.out] at cv
            have q0' := X2.out.cell0
            have q1' := X2.out.cell1
            have p0' := X2.out.fr0
            have p1' := X2.out.fr1
            have X3 := X2.out.set0 (.string (Rk.tok s))
            have q3 := X3.cell1
            have p3 := X3.fr1
            have X4 := X3.set1 (.int .i64 (Rk.num s))
            have r0 := X4.cell0
            have r1 := X4.cell1
            have BB := hid (below_two B2.out (Nat.le_refl _) (.string (Rk.tok s)) (.int .i64 (Rk.num s)))
            clear X3 X4
            go_wp2_with fail
            refine bodyPost_ret (v := .tuple #[.agg #[.string (Rk.tok s), .int .i64 (Rk.num s)], .int .i64 0]) (by simp [results, Try.results9, go_sem, r0, r1]) rfl ?_
            exact ⟨.inl ⟨.inr (.inr ⟨HF.out, by omega, rfl⟩), rfl⟩, BB.out⟩
        · have HF := hid (show ¬ Rk.Form s from fun h => hN h.2.2)
          clear hN
          have q0' := X2.out.cell0
          have q1' := X2.out.cell1
          have p0' := X2.out.fr0
          have p1' := X2.out.fr1
          have X3 := X2.out.set0 (.string ⟨#[]⟩)
          have q3 := X3.cell1
          have p3 := X3.fr1
          have X4 := X3.set1 (.int .i64 0)
          have r0 := X4.cell0
          have r1 := X4.cell1
          have BB := hid (below_two B2.out (Nat.le_refl _) (.string ⟨#[]⟩) (.int .i64 0))
          clear X3 X4
          go_wp2_with fail
          refine bodyPost_ret (v := .tuple #[.agg #[.string ⟨#[]⟩, .int .i64 0], .int .i64 2]) (by simp [results, Try.results9, go_sem, r0, r1]) rfl ?_
          exact ⟨.inr ⟨2, .inl ⟨HF.out, rfl⟩, by omega, rfl⟩, BB.out⟩
      · have HF := hid (show ¬ Rk.Form s from fun h => B6.bad_not_good hp h.2.1)
        clear hp
        have q0' := X2.out.cell0
        have q1' := X2.out.cell1
        have p0' := X2.out.fr0
        have p1' := X2.out.fr1
        have X3 := X2.out.set0 (.string ⟨#[]⟩)
        have q3 := X3.cell1
        have p3 := X3.fr1
        have X4 := X3.set1 (.int .i64 0)
        have r0 := X4.cell0
        have r1 := X4.cell1
        have BB := hid (below_two B2.out (Nat.le_refl _) (.string ⟨#[]⟩) (.int .i64 0))
        clear X3 X4
        go_wp2_with fail
        refine bodyPost_ret (v := .tuple #[.agg #[.string ⟨#[]⟩, .int .i64 0], .int .i64 2]) (by simp [results, Try.results9, go_sem, r0, r1]) rfl ?_
        exact ⟨.inr ⟨2, .inl ⟨HF.out, rfl⟩, by omega, rfl⟩, BB.out⟩
    · have HF := hid (show ¬ Rk.Form s from fun h => hk (by rw [← hl]; exact h.1))
      have hk' : ¬ (k : Int) = 2 := by omega
      clear hg hw hl ht
      have q0' := X1.out.cell0
      have q1' := X1.out.cell1
      have p0' := X1.out.fr0
      have p1' := X1.out.fr1
      have X3 := X1.out.set0 (.string ⟨#[]⟩)
      have q3 := X3.cell1
      have p3 := X3.fr1
      have X4 := X3.set1 (.int .i64 0)
      have r0 := X4.cell0
      have r1 := X4.cell1
      have BB := hid (below_two B1.out (Nat.le_refl _) (.string ⟨#[]⟩) (.int .i64 0))
      clear X3 X4
      go_wp2_with fail
      refine bodyPost_ret (v := .tuple #[.agg #[.string ⟨#[]⟩, .int .i64 0], .int .i64 2]) (by simp [results, Try.results9, go_sem, r0, r1]) rfl ?_
      exact ⟨.inr ⟨2, .inl ⟨HF.out, rfl⟩, by omega, rfl⟩, BB.out⟩
  · have HF := hid (show ¬ Rk.Form s from fun h => by have := h.1; unfold wds at this; rw [hbad] at this; simp at this)
    clear hbad
    have q0' := X1.out.cell0
    have q1' := X1.out.cell1
    have p0' := X1.out.fr0
    have p1' := X1.out.fr1
    have X3 := X1.out.set0 (.string ⟨#[]⟩)
    have q3 := X3.cell1
    have p3 := X3.fr1
    have X4 := X3.set1 (.int .i64 0)
    have r0 := X4.cell0
    have r1 := X4.cell1
    have BB := hid (below_two B1.out (Nat.le_refl _) (.string ⟨#[]⟩) (.int .i64 0))
    clear X3 X4
    go_wp2_with fail
    refine bodyPost_ret (v := .tuple #[.agg #[.string ⟨#[]⟩, .int .i64 0], .int .i64 2]) (by simp [results, Try.results9, go_sem, r0, r1]) rfl ?_
    exact ⟨.inr ⟨2, .inl ⟨HF.out, rfl⟩, by omega, rfl⟩, BB.out⟩
end Go.Proofs.Ythemaacfjmcbnaa
