/-
  Walks of merge.read, isLong, rowOf and pairOf.
-/
import Derived.Test.YtecbmonbeogdjaaDoorMgMath
import Derived.Test.YtecbmonbeogdjaaDoorLotB
import Derived.Test.YtecbmonbeogdjaaDoorLotE
namespace Go.Proofs.YtecbmonbeogdjaaDoor
open Go.RowKit
set_option linter.unusedVariables false

/-- What read answers. -/
def MrOut (s : ByteArray) (e : Ending) : Prop :=
  (∃ t, Mg.RdIs s t ∧ e = .returned (.tuple #[.string t, .bool true])) ∨ ((∀ t, ¬ Mg.RdIs s t) ∧ e = .returned (.tuple #[.string ⟨#[]⟩, .bool false]))

set_option maxHeartbeats 1600000 in
theorem mread_calls (s : ByteArray) (w : World) (hsz : s.size ≤ 100000) :
    Calls Tryd.prog 50 #[.string s] w fun e w' => MrOut s e ∧ Below w.heap.size w w' := by
  go_enter Tryd.func50, Tryd.ntmps50
  go_wp2_with fail
  refine (lread_calls s s.size (bytesF s) _ hsz (St.any s)).mono ?_
  rintro e w1 ⟨ho, hb1⟩
  have B1 := hid hb1
  clear hb1
  rcases ho with ⟨g, k, hW, a, c, rfl, hs⟩ | ⟨p, hp, rfl⟩
  · have HW := hid hW
    have cv := run_convert_sl (P := Tryd.prog) w1 28 5 9 Tryd.underlying28 Tryd.underlying5 Tryd.underlying9 hs
    clear hW hs
    go_wp2_with fail
    go_ret2
    exact ⟨.inl ⟨_, ⟨g, k, HW.out, rfl⟩, rfl⟩, B1.out⟩
  · have HN := hid (Mg.bad_no hp)
    have hs : Sl w1 none 0 0 (fun _ => 0) := ⟨Nat.le_refl _, Nat.zero_le _, fun _ => ⟨Int.le_refl _, by show (0 : Int) ≤ 255; omega⟩, fun _ => ⟨rfl, rfl⟩, fun h => absurd h (by omega)⟩
    have cv := run_convert_sl (P := Tryd.prog) w1 28 5 9 Tryd.underlying28 Tryd.underlying5 Tryd.underlying9 hs
    rw [show str (fun _ => 0) 0 = ⟨#[]⟩ from rfl] at cv
    clear hp hs
    go_wp2_with fail
    go_ret2
    exact ⟨.inr ⟨HN.out, rfl⟩, B1.out⟩

theorem isLong_calls (s : ByteArray) (w : World) :
    Calls Tryd.prog 36 #[.string s] w fun e w' => e = .returned (.bool (decide (64 < s.size))) ∧ w' = w := by
  by_cases h : 64 < s.size
  · have h' : (64 : Int) < s.size := by omega
    go_enter Tryd.func36, Tryd.ntmps36
    go_wp2_with fail
    go_ret
    exact ⟨ret_bool (decide_eq_true h).symm, rfl⟩
  · have h' : ¬ (64 : Int) < s.size := by omega
    go_enter Tryd.func36, Tryd.ntmps36
    go_wp2_with fail
    go_ret
    exact ⟨rfl, rfl⟩

/-- What rowOf answers. -/
def RoOut (s : ByteArray) (e : Ending) : Prop :=
  (∃ x, Mg.RowIs s x ∧ e = .returned (.tuple #[.agg #[.string x.1, .int .i64 x.2], .bool true])) ∨
  ((∀ x, ¬ Mg.RowIs s x) ∧ e = .returned (.tuple #[.agg #[.string ⟨#[]⟩, .int .i64 0], .bool false]))
/-- What pairOf answers. -/
def PoOut (s : ByteArray) (e : Ending) : Prop :=
  (∃ x, Mg.PairIs s x ∧ e = .returned (.tuple #[.agg #[.string x.1, .string x.2], .bool true])) ∨
  ((∀ x, ¬ Mg.PairIs s x) ∧ e = .returned (.tuple #[.agg #[.string ⟨#[]⟩, .string ⟨#[]⟩], .bool false]))

set_option maxRecDepth 100000 in
set_option maxHeartbeats 3200000 in
theorem mrowOf_calls (s : ByteArray) (w : World) (hsz : s.size ≤ 100000) :
    Calls Tryd.prog 42 #[.string s] w fun e w' => RoOut s e ∧ Below w.heap.size w w' := by
  go_enter Tryd.func42, Tryd.ntmps42
  go_wp2_with fail
  refine (words_calls s _ hsz).mono ?_
  rintro e w1 ⟨ho, hb1⟩
  have X1 := hid ((Bx2.new w 43 (.string ⟨#[]⟩) (.int .i64 0)).below hb1 (by simp))
  have B1 := hid (((Below.refl w.heap.size w).alloc (Nat.le_refl _) (.cells #[.string ⟨#[]⟩, .int .i64 0] 43)).trans (hb1.mono (by simp)))
  clear hb1
  rcases ho with ⟨hg, a, k, cap, rfl, ht⟩ | ⟨hbad, rfl⟩
  · have hw : wds s = ps 32 s := by unfold wds ps; rw [show Ln.words (by_ s) = _ from hg]
    rw [← hw] at ht
    have hl := ht.len
    by_cases hk : k = 2
    · subst hk
      obtain ⟨b, off, rfl, _, hc⟩ := ht.at' (by omega)
      have q0 : w1.cell? ⟨b, off, none⟩ = some (.string (Rk.w0 s)) := hc 0 (by omega)
      have q1 : w1.cell? ⟨b, off + 1, none⟩ = some (.string (Rk.w1 s)) := hc 1 (by omega)
      have HL := hid hl
      have z0 : (Rk.w0 s).size ≤ s.size := Rk.wds_le
      have z1 : (Rk.w1 s).size ≤ s.size := Rk.wds_le
      have hbl := World.block_lt_of_cell? _ _ q0
      clear hc ht hg hw hl
      go_wp2_with fail
      refine (mread_calls (Rk.w0 s) _ (by omega)).mono ?_
      rintro e w2 ⟨ho, hb2⟩
      have B2 := hid (B1.out.trans (hb2.mono B1.out.size))
      have X2 := hid (X1.out.below hb2 X1.out.lt)
      rw [← hb2.cell (p := ⟨b, off + 1, none⟩) hbl] at q1
      clear q0 hb2
      rcases ho with ⟨t, hG, rfl⟩ | ⟨hp, rfl⟩
      · have HG := hid hG
        clear hG
        go_wp2_with fail
        refine (number_calls (Rk.w1 s) (Rk.w1 s).size (bytesF (Rk.w1 s)) _ (by omega) (St.any _)).mono ?_
        rintro e w3 ⟨ho, hw3⟩
        subst hw3
        rcases ho with ⟨hN, rfl⟩ | ⟨hN, rfl⟩
        · have HF := hid (show Mg.RowIs s (t, Mg.num (Rk.w1 s)) from ⟨HL.out, HG.out, hN, rfl⟩)
          rw [show Ln.vF (bytesF (Rk.w1 s)) (Rk.w1 s).size = Mg.num (Rk.w1 s) from rfl]
          clear hN
          have q0' := X2.out.cell0
          have q1' := X2.out.cell1
          have p0' := X2.out.fr0
          have p1' := X2.out.fr1
          have X3 := X2.out.set0 (.string t)
          have q3 := X3.cell1
          have p3 := X3.fr1
          have X4 := X3.set1 (.int .i64 (Mg.num (Rk.w1 s)))
          have r0 := X4.cell0
          have r1 := X4.cell1
          have BB := hid (below_two B2.out (Nat.le_refl _) (.string t) (.int .i64 (Mg.num (Rk.w1 s))))
          clear X3 X4
          go_wp2_with fail
          refine bodyPost_ret (v := .tuple #[.agg #[.string t, .int .i64 (Mg.num (Rk.w1 s))], .bool true]) (by simp [results, Tryd.results42, go_sem, r0, r1]) rfl ?_
          exact ⟨.inl ⟨_, HF.out, rfl⟩, BB.out⟩
        · have HF := hid (show ∀ x, ¬ Mg.RowIs s x from fun x h => hN h.2.2.1)
          clear hN
          have q0' := X2.out.cell0
          have q1' := X2.out.cell1
          have p0' := X2.out.fr0
          have p1' := X2.out.fr1
          have X3 := X2.out.set0 (.string ⟨#[]⟩)
          have q3 := X3.cell1
          have p3 := X3.fr1
          have X4 := X3.set1 (.int .i64 0)
          have r0 := X4.cell0
          have r1 := X4.cell1
          have BB := hid (below_two B2.out (Nat.le_refl _) (.string ⟨#[]⟩) (.int .i64 0))
          clear X3 X4
          go_wp2_with fail
          refine bodyPost_ret (v := .tuple #[.agg #[.string ⟨#[]⟩, .int .i64 0], .bool false]) (by simp [results, Tryd.results42, go_sem, r0, r1]) rfl ?_
          exact ⟨.inr ⟨HF.out, rfl⟩, BB.out⟩
      · have HF := hid (show ∀ x, ¬ Mg.RowIs s x from fun x h => hp _ h.2.1)
        clear hp
        have q0' := X2.out.cell0
        have q1' := X2.out.cell1
        have p0' := X2.out.fr0
        have p1' := X2.out.fr1
        have X3 := X2.out.set0 (.string ⟨#[]⟩)
        have q3 := X3.cell1
        have p3 := X3.fr1
        have X4 := X3.set1 (.int .i64 0)
        have r0 := X4.cell0
        have r1 := X4.cell1
        have BB := hid (below_two B2.out (Nat.le_refl _) (.string ⟨#[]⟩) (.int .i64 0))
        clear X3 X4
        go_wp2_with fail
        refine bodyPost_ret (v := .tuple #[.agg #[.string ⟨#[]⟩, .int .i64 0], .bool false]) (by simp [results, Tryd.results42, go_sem, r0, r1]) rfl ?_
        exact ⟨.inr ⟨HF.out, rfl⟩, BB.out⟩
    · have HF := hid (show ∀ x, ¬ Mg.RowIs s x from fun x h => hk (by rw [← hl]; exact h.1))
      have hk' : ¬ (k : Int) = 2 := by omega
      clear hg hw hl ht
      have q0' := X1.out.cell0
      have q1' := X1.out.cell1
      have p0' := X1.out.fr0
      have p1' := X1.out.fr1
      have X3 := X1.out.set0 (.string ⟨#[]⟩)
      have q3 := X3.cell1
      have p3 := X3.fr1
      have X4 := X3.set1 (.int .i64 0)
      have r0 := X4.cell0
      have r1 := X4.cell1
      have BB := hid (below_two B1.out (Nat.le_refl _) (.string ⟨#[]⟩) (.int .i64 0))
      clear X3 X4
      go_wp2_with fail
      refine bodyPost_ret (v := .tuple #[.agg #[.string ⟨#[]⟩, .int .i64 0], .bool false]) (by simp [results, Tryd.results42, go_sem, r0, r1]) rfl ?_
      exact ⟨.inr ⟨HF.out, rfl⟩, BB.out⟩
  · have HF := hid (show ∀ x, ¬ Mg.RowIs s x from fun x h => by have := h.1; unfold wds at this; rw [hbad] at this; simp at this)
    clear hbad
    have q0' := X1.out.cell0
    have q1' := X1.out.cell1
    have p0' := X1.out.fr0
    have p1' := X1.out.fr1
    have X3 := X1.out.set0 (.string ⟨#[]⟩)
    have q3 := X3.cell1
    have p3 := X3.fr1
    have X4 := X3.set1 (.int .i64 0)
    have r0 := X4.cell0
    have r1 := X4.cell1
    have BB := hid (below_two B1.out (Nat.le_refl _) (.string ⟨#[]⟩) (.int .i64 0))
    clear X3 X4
    go_wp2_with fail
    refine bodyPost_ret (v := .tuple #[.agg #[.string ⟨#[]⟩, .int .i64 0], .bool false]) (by simp [results, Tryd.results42, go_sem, r0, r1]) rfl ?_
    exact ⟨.inr ⟨HF.out, rfl⟩, BB.out⟩
set_option maxRecDepth 100000 in
set_option maxHeartbeats 3200000 in
theorem mpairOf_calls (s : ByteArray) (w : World) (hsz : s.size ≤ 100000) :
    Calls Tryd.prog 48 #[.string s] w fun e w' => PoOut s e ∧ Below w.heap.size w w' := by
  go_enter Tryd.func48, Tryd.ntmps48
  go_wp2_with fail
  refine (words_calls s _ hsz).mono ?_
  rintro e w1 ⟨ho, hb1⟩
  have X1 := hid ((Bx2.new w 45 (.string ⟨#[]⟩) (.string ⟨#[]⟩)).below hb1 (by simp))
  have B1 := hid (((Below.refl w.heap.size w).alloc (Nat.le_refl _) (.cells #[.string ⟨#[]⟩, .string ⟨#[]⟩] 45)).trans (hb1.mono (by simp)))
  clear hb1
  rcases ho with ⟨hg, a, k, cap, rfl, ht⟩ | ⟨hbad, rfl⟩
  · have hw : wds s = ps 32 s := by unfold wds ps; rw [show Ln.words (by_ s) = _ from hg]
    rw [← hw] at ht
    have hl := ht.len
    by_cases hk : k = 2
    · subst hk
      obtain ⟨b, off, rfl, _, hc⟩ := ht.at' (by omega)
      have q0 : w1.cell? ⟨b, off, none⟩ = some (.string (Rk.w0 s)) := hc 0 (by omega)
      have q1 : w1.cell? ⟨b, off + 1, none⟩ = some (.string (Rk.w1 s)) := hc 1 (by omega)
      have HL := hid hl
      have z0 : (Rk.w0 s).size ≤ s.size := Rk.wds_le
      have z1 : (Rk.w1 s).size ≤ s.size := Rk.wds_le
      have hbl := World.block_lt_of_cell? _ _ q0
      clear hc ht hg hw hl
      go_wp2_with fail
      refine (mread_calls (Rk.w0 s) _ (by omega)).mono ?_
      rintro e w2 ⟨ho, hb2⟩
      have B2 := hid (B1.out.trans (hb2.mono B1.out.size))
      have X2 := hid (X1.out.below hb2 X1.out.lt)
      rw [← hb2.cell (p := ⟨b, off + 1, none⟩) hbl] at q1
      clear q0 hb2
      rcases ho with ⟨t, hG, rfl⟩ | ⟨hp, rfl⟩
      · have HG := hid hG
        clear hG
        go_wp2_with fail
        refine (mread_calls (Rk.w1 s) _ (by omega)).mono ?_
        rintro e w3 ⟨ho, hb3⟩
        have B3 := hid (B2.out.trans (hb3.mono B2.out.size))
        have X3' := hid (X2.out.below hb3 X2.out.lt)
        clear hb3 B2 X2 q1
        have B2 := B3
        have X2 := X3'
        clear B3 X3'
        rcases ho with ⟨t2, hN, rfl⟩ | ⟨hN, rfl⟩
        · have HF := hid (show Mg.PairIs s (t, t2) from ⟨HL.out, HG.out, hN⟩)
          clear hN
          have q0' := X2.out.cell0
          have q1' := X2.out.cell1
          have p0' := X2.out.fr0
          have p1' := X2.out.fr1
          have X3 := X2.out.set0 (.string t)
          have q3 := X3.cell1
          have p3 := X3.fr1
          have X4 := X3.set1 (.string t2)
          have r0 := X4.cell0
          have r1 := X4.cell1
          have BB := hid (below_two B2.out (Nat.le_refl _) (.string t) (.string t2))
          clear X3 X4
          go_wp2_with fail
          refine bodyPost_ret (v := .tuple #[.agg #[.string t, .string t2], .bool true]) (by simp [results, Tryd.results48, go_sem, r0, r1]) rfl ?_
          exact ⟨.inl ⟨_, HF.out, rfl⟩, BB.out⟩
        · have HF := hid (show ∀ x, ¬ Mg.PairIs s x from fun x h => hN _ h.2.2)
          clear hN
          have q0' := X2.out.cell0
          have q1' := X2.out.cell1
          have p0' := X2.out.fr0
          have p1' := X2.out.fr1
          have X3 := X2.out.set0 (.string ⟨#[]⟩)
          have q3 := X3.cell1
          have p3 := X3.fr1
          have X4 := X3.set1 (.string ⟨#[]⟩)
          have r0 := X4.cell0
          have r1 := X4.cell1
          have BB := hid (below_two B2.out (Nat.le_refl _) (.string ⟨#[]⟩) (.string ⟨#[]⟩))
          clear X3 X4
          go_wp2_with fail
          refine bodyPost_ret (v := .tuple #[.agg #[.string ⟨#[]⟩, .string ⟨#[]⟩], .bool false]) (by simp [results, Tryd.results48, go_sem, r0, r1]) rfl ?_
          exact ⟨.inr ⟨HF.out, rfl⟩, BB.out⟩
      · have HF := hid (show ∀ x, ¬ Mg.PairIs s x from fun x h => hp _ h.2.1)
        clear hp
        have q0' := X2.out.cell0
        have q1' := X2.out.cell1
        have p0' := X2.out.fr0
        have p1' := X2.out.fr1
        have X3 := X2.out.set0 (.string ⟨#[]⟩)
        have q3 := X3.cell1
        have p3 := X3.fr1
        have X4 := X3.set1 (.string ⟨#[]⟩)
        have r0 := X4.cell0
        have r1 := X4.cell1
        have BB := hid (below_two B2.out (Nat.le_refl _) (.string ⟨#[]⟩) (.string ⟨#[]⟩))
        clear X3 X4
        go_wp2_with fail
        refine bodyPost_ret (v := .tuple #[.agg #[.string ⟨#[]⟩, .string ⟨#[]⟩], .bool false]) (by simp [results, Tryd.results48, go_sem, r0, r1]) rfl ?_
        exact ⟨.inr ⟨HF.out, rfl⟩, BB.out⟩
    · have HF := hid (show ∀ x, ¬ Mg.PairIs s x from fun x h => hk (by rw [← hl]; exact h.1))
      have hk' : ¬ (k : Int) = 2 := by omega
      clear hg hw hl ht
      have q0' := X1.out.cell0
      have q1' := X1.out.cell1
      have p0' := X1.out.fr0
      have p1' := X1.out.fr1
      have X3 := X1.out.set0 (.string ⟨#[]⟩)
      have q3 := X3.cell1
      have p3 := X3.fr1
      have X4 := X3.set1 (.string ⟨#[]⟩)
      have r0 := X4.cell0
      have r1 := X4.cell1
      have BB := hid (below_two B1.out (Nat.le_refl _) (.string ⟨#[]⟩) (.string ⟨#[]⟩))
      clear X3 X4
      go_wp2_with fail
      refine bodyPost_ret (v := .tuple #[.agg #[.string ⟨#[]⟩, .string ⟨#[]⟩], .bool false]) (by simp [results, Tryd.results48, go_sem, r0, r1]) rfl ?_
      exact ⟨.inr ⟨HF.out, rfl⟩, BB.out⟩
  · have HF := hid (show ∀ x, ¬ Mg.PairIs s x from fun x h => by have := h.1; unfold wds at this; rw [hbad] at this; simp at this)
    clear hbad
    have q0' := X1.out.cell0
    have q1' := X1.out.cell1
    have p0' := X1.out.fr0
    have p1' := X1.out.fr1
    have X3 := X1.out.set0 (.string ⟨#[]⟩)
    have q3 := X3.cell1
    have p3 := X3.fr1
    have X4 := X3.set1 (.string ⟨#[]⟩)
    have r0 := X4.cell0
    have r1 := X4.cell1
    have BB := hid (below_two B1.out (Nat.le_refl _) (.string ⟨#[]⟩) (.string ⟨#[]⟩))
    clear X3 X4
    go_wp2_with fail
    refine bodyPost_ret (v := .tuple #[.agg #[.string ⟨#[]⟩, .string ⟨#[]⟩], .bool false]) (by simp [results, Tryd.results48, go_sem, r0, r1]) rfl ?_
    exact ⟨.inr ⟨HF.out, rfl⟩, BB.out⟩
end Go.Proofs.YtecbmonbeogdjaaDoor
