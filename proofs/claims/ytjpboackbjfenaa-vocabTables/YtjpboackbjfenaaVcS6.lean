/-
  Walk of vocab.FromRows.
-/
import Derived.Test.YtjpboackbjfenaaVcS5
namespace Go.Proofs.Ytjpboackbjfenaa
open Go.RowKit Go.Maps
set_option linter.unusedVariables false

/-- What FromRows answers. -/
def FrOut (M : Nat) (rs sp : Vc.Sps) (e : Ending) (w' : World) : Prop :=
  (∃ ts ms sp' a n c am nm cm az ns cs, Vc.FromIs rs sp ts ms sp' ∧ (Hi M a ∧ Hi M am ∧ Hi M az) ∧ e = .returned (.tuple #[.agg #[.slice a n c, .slice am nm cm, .slice az ns cs], .int .i64 0]) ∧ Vo w' a n c am nm cm az ns cs ts ms sp') ∨
  (Vc.NoFrom rs sp ∧ e = .returned (.tuple #[.agg #[.slice none 0 0, .slice none 0 0, .slice none 0 0], .int .i64 2]))

theorem Vo.mut {w w' : World} {a : Option Addr} {n c : Nat} {am : Option Addr} {nm cm : Nat} {az : Option Addr} {ns cs : Nat} {ts : List ByteArray} {ms : List Mg4} {sp : List (ByteArray × Int)} {S : Nat → Prop} {N : Nat} (h : Vo w a n c am nm cm az ns cs ts ms sp) (hm : Mut S w w') (h1 : Hi N a) (h2 : Hi N am) (h3 : Hi N az) (hS : ∀ i, N ≤ i → ¬ S i) : Vo w' a n c am nm cm az ns cs ts ms sp :=
  ⟨h.T.mut hm h1 hS, h.M.mut hm h2 hS, h.S.mut hm h3 hS⟩

set_option maxRecDepth 100000 in
set_option maxHeartbeats 3200000 in
theorem fromRows_calls {w : World} {a az : Option Addr} {n c ns cs : Nat} {rs sp : Vc.Sps} (V : Rw w a n c rs) (Q : Rw w az ns cs sp) (hz : ∀ i, i < rs.length → (tat rs i).size ≤ maxLen) (hns : ns ≤ 1000000) :
    Calls Try.prog 14 #[.slice a n c, .slice az ns cs] w fun e w' => FrOut w.heap.size rs sp e w' ∧ Below w.heap.size w w' := by
  have B0 := hid ((Below.refl w.heap.size w).alloc (Nat.le_refl _) (.cells #[.slice none 0 0, .slice none 0 0, .slice none 0 0] 26))
  have R0 := hid (Bx3.new w 26 (.slice none 0 0) (.slice none 0 0) (.slice none 0 0))
  have s0 : (w.alloc (.cells #[.slice none 0 0, .slice none 0 0, .slice none 0 0] 26)).heap.size = w.heap.size + 1 := by simp
  have V0 := hid (V.below B0.out)
  have Q0 := hid (Q.below B0.out)
  have HZ := hid hz
  clear V Q hz
  go_enter Try.func14, Try.ntmps14
  go_wp2_with fail
  refine (unmerged_calls V0.out Q0.out HZ.out hns).mono ?_
  rintro e w1 ⟨E1, b1⟩
  have R1 := hid (R0.out.below b1 R0.out.lt)
  have B1 := hid (B0.out.trans (b1.mono B0.out.size))
  have hw1 := b1.size
  rw [s0] at E1 hw1
  clear b1 B0 R0 V0 Q0
  rcases E1 with ⟨hR, ts, sp', b, z1, zn, zc, ⟨hb, hzh⟩, hT, hM, hS, rfl, hTs, hRs⟩ | ⟨hno, rfl⟩
  · have HR := hid hR
    have HT := hid hT
    have HM := hid hM
    have HS := hid hS
    have T1 := hid hTs
    have Q1 := hid hRs
    have HH := hid hzh
    have Hb := hid (show Hi (w.heap.size + 1) (some ⟨b, 0, none⟩) from hi_some hb)
    clear hR hT hM hS hTs hRs hzh hb
    obtain ⟨N, hN⟩ : ∃ N, ts.length = N := ⟨_, rfl⟩
    have HN := hid hN
    rw [hN] at T1 ⊢
    clear hN
    have X2 := hid (Bx3.new w1 26 (.slice (some ⟨b, 0, none⟩) N N) (.slice none 0 0) (.slice z1 zn zc))
    have B12 := hid ((Below.refl w1.heap.size w1).alloc (Nat.le_refl _) (.cells #[.slice (some ⟨b, 0, none⟩) N N, .slice none 0 0, .slice z1 zn zc] 26))
    have s1 : (w1.alloc (.cells #[.slice (some ⟨b, 0, none⟩) N N, .slice none 0 0, .slice z1 zn zc] 26)).heap.size = w1.heap.size + 1 := by simp
    have x0 := X2.out.cell0
    go_wp2_with fail
    refine (mergesOfCuts_calls (T1.out.below B12.out) HM.out).mono ?_
    rintro e w2 ⟨⟨am, nm, cm, ms, rfl, hmh, hC, hQ⟩, b2⟩
    have X3 := hid (X2.out.below b2 X2.out.lt)
    have HC := hid hC
    have Q2 := hid hQ
    rw [s1] at hmh
    have HMh := hid hmh
    have B2 := hid (B12.out.trans (b2.mono (by rw [s1]; omega)))
    have hw2 := b2.size
    rw [s1] at hw2
    clear b2 hC hQ hmh X2 B12 x0
    have y0 := X3.out.cell0
    have y1 := X3.out.cell1
    have y2 := X3.out.cell2
    have f1 := X3.out.fr 1
    have X4 := hid (X3.out.set1 (.slice am nm cm))
    have z0 := X4.out.cell0
    have z1' := X4.out.cell1
    have z2 := X4.out.cell2
    have B3 := hid (B2.out.setCell (p := ⟨w1.heap.size, 1, none⟩) (Nat.le_refl _) (.slice am nm cm))
    have R3 := hid (R1.out.below B3.out R1.out.lt)
    have BW := hid (B1.out.trans (B3.out.mono B1.out.size))
    have Q3 := hid (Q2.out.mut (Mut.set w2 w1.heap.size 1 (.slice am nm cm) (S := fun i => i = w1.heap.size) rfl) HMh.out (fun i hi => by omega))
    have V3 := hid (show Vo (w2.setCell ⟨w1.heap.size, 1, none⟩ (.slice am nm cm)) (some ⟨b, 0, none⟩) N N am nm cm z1 zn zc ts ms sp' from ⟨T1.out.below B3.out, Q3.out, Q1.out.below B3.out⟩)
    have hsz : (w2.setCell ⟨w1.heap.size, 1, none⟩ (.slice am nm cm)).heap.size = w2.heap.size := by simp
    clear X3 B2 Q2 Q3 T1 Q1 R1 B1 B3
    go_wp2_with fail
    refine (checked_calls V3.out (fun i hi => tok_small HT.out HZ.out i (by rw [HN.out]; exact hi))).mono ?_
    rintro e w4 ⟨hE, b4⟩
    have R4 := hid (R3.out.below b4 R3.out.lt)
    have V4 := hid (V3.out.below b4)
    have B4 := hid (BW.out.trans (b4.mono BW.out.size))
    clear b4 R3 V3 BW X4 y0 y1 y2 f1 z0 z1' z2
    have p0 := R4.out.cell0
    have p1 := R4.out.cell1
    have p2 := R4.out.cell2
    have q0 := R4.out.fr 0
    have q1 := R4.out.fr 1
    have q2 := R4.out.fr 2
    rcases hE with ⟨hmay, rfl⟩ | ⟨hmay, rfl⟩
    · have HF := hid (show Vc.FromIs rs sp ts ms sp' from ⟨HR.out, HT.out, HC.out, HS.out, hmay⟩)
      clear hmay
      obtain ⟨y1, y2, y3⟩ := ret_three R4.out (.slice (some ⟨b, 0, none⟩) N N) (.slice am nm cm) (.slice z1 zn zc)
      have BB := hid (below_three B4.out (R := w.heap.size) (Nat.le_refl _) (.slice (some ⟨b, 0, none⟩) N N) (.slice am nm cm) (.slice z1 zn zc))
      have V5 := hid (V4.out.mut (mut_three w4 w.heap.size (.slice (some ⟨b, 0, none⟩) N N) (.slice am nm cm) (.slice z1 zn zc) (S := fun i => i = w.heap.size) rfl) Hb.out (HMh.out.mono (by omega)) HH.out (fun i hi => by omega))
      have u1 := y1.cell1
      have v1 := y1.fr 1
      have u2 := y2.cell2
      have v2 := y2.fr 2
      have r0 := y3.cell0
      have r1 := y3.cell1
      have r2 := y3.cell2
      unfold three at r0 r1 r2
      clear y1 y2 y3
      go_wp2_with fail
      refine bodyPost_ret (v := .tuple #[.agg #[.slice (some ⟨b, 0, none⟩) N N, .slice am nm cm, .slice z1 zn zc], .int .i64 0]) (by simp [results, Try.results14, go_sem, r0, r1, r2]) rfl ?_
      exact ⟨.inl ⟨ts, ms, sp', _, _, _, am, nm, cm, z1, zn, zc, HF.out, ⟨Hb.out.mono (by omega), HMh.out.mono (by omega), HH.out.mono (by omega)⟩, rfl, V5.out⟩, BB.out⟩
    · have HF := hid (Vc.noFrom HT.out HC.out HS.out hmay)
      clear hmay
      obtain ⟨y1, y2, y3⟩ := ret_three R4.out (.slice none 0 0) (.slice none 0 0) (.slice none 0 0)
      have BB := hid (below_three B4.out (R := w.heap.size) (Nat.le_refl _) (.slice none 0 0) (.slice none 0 0) (.slice none 0 0))
      have u1 := y1.cell1
      have v1 := y1.fr 1
      have u2 := y2.cell2
      have v2 := y2.fr 2
      have r0 := y3.cell0
      have r1 := y3.cell1
      have r2 := y3.cell2
      unfold three at r0 r1 r2
      clear y1 y2 y3
      go_wp2_with fail
      refine bodyPost_ret (v := .tuple #[.agg #[.slice none 0 0, .slice none 0 0, .slice none 0 0], .int .i64 2]) (by simp [results, Try.results14, go_sem, r0, r1, r2]) rfl ?_
      exact ⟨.inr ⟨HF.out, rfl⟩, BB.out⟩
  · have HF := hid (show Vc.NoFrom rs sp from by
      rcases hno with h | ⟨ts, h1, h2⟩
      · exact Vc.noFrom_ranks h
      · exact Vc.noFrom_tok h1 h2)
    clear hno
    have R2 := hid (R1.out.alloc (.cells #[.slice none 0 0, .slice none 0 0, .slice none 0 0] 26))
    have B2 := hid (B1.out.alloc B1.out.size (.cells #[.slice none 0 0, .slice none 0 0, .slice none 0 0] 26))
    obtain ⟨y1, y2, y3⟩ := ret_three R2.out (.slice none 0 0) (.slice none 0 0) (.slice none 0 0)
    have BB := hid (below_three B2.out (R := w.heap.size) (Nat.le_refl _) (.slice none 0 0) (.slice none 0 0) (.slice none 0 0))
    have p0 := R2.out.cell0
    have p1 := R2.out.cell1
    have p2 := R2.out.cell2
    have q0 := R2.out.fr 0
    have q1 := R2.out.fr 1
    have q2 := R2.out.fr 2
    have u1 := y1.cell1
    have v1 := y1.fr 1
    have u2 := y2.cell2
    have v2 := y2.fr 2
    have r0 := y3.cell0
    have r1 := y3.cell1
    have r2 := y3.cell2
    unfold three at r0 r1 r2
    clear y1 y2 y3
    go_wp2_with fail
    refine bodyPost_ret (v := .tuple #[.agg #[.slice none 0 0, .slice none 0 0, .slice none 0 0], .int .i64 2]) (by simp [results, Try.results14, go_sem, r0, r1, r2]) rfl ?_
    exact ⟨.inr ⟨HF.out, rfl⟩, BB.out⟩
end Go.Proofs.Ytjpboackbjfenaa
