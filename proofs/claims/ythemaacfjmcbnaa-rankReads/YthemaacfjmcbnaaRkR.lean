/-
  The walk of the reference's Read.
-/
import Derived.Test.YthemaacfjmcbnaaRkW2
import Derived.Test.YthemaacfjmcbnaaB6MathC
import Derived.Test.YthemaacfjmcbnaaB6R4
import Derived.Test.YthemaacfjmcbnaaLnN3
namespace Go.Proofs.Ythemaacfjmcbnaa
open Go.RowKit
set_option linter.unusedVariables false

set_option maxRecDepth 100000 in
set_option maxHeartbeats 3200000 in
theorem rread_calls (X : ByteArray) (w : World) (hXs : X.size ≤ 100000) (hk : (lns X).length ≤ 4096) :
    Calls Try.prog 6 #[.string X] w fun e w' => RdOut (lns X) e w' ∧ Below w.heap.size w w' := by
  obtain ⟨i0, hi, hz0, hz1, hz2⟩ := info_parts Try.infoR
  have B0 := hid (((Below.refl w.heap.size w).alloc (Nat.le_refl _) (.cells #[.int .i64 0, .int .i64 0] 27)).alloc (by simp) (.cells #[] 34))
  have X0 := hid ((Bx2.new w 27 (.int .i64 0) (.int .i64 0)).alloc (.cells #[] 34))
  have O0 := hid (own_empty (w := w.alloc (.cells #[.int .i64 0, .int .i64 0] 27)) (base := w.heap.size + 1) (e := 34) (size := 2) (w.heap.size + 1) (by simp) (by simp))
  have M0 := hid (show ((w.alloc (.cells #[.int .i64 0, .int .i64 0] 27)).alloc (.cells #[] 34)).heap[w.heap.size + 1]? = some (.cells #[] 34) by
    have := World.alloc_heap_new (w.alloc (.cells #[.int .i64 0, .int .i64 0] 27)) (.cells #[] 34)
    simpa using this)
  go_enter Try.func6, Try.ntmps6
  go_wp2_with fail
  refine (rlines_calls X _ hXs).mono ?_
  rintro e w1 ⟨a1, k, c1, rfl, t1, hb1⟩
  have hl := t1.len
  have T1 := hid t1
  have HM := hid (show w1.heap[w.heap.size + 1]? = some (.cells #[] 34) by
    rw [hb1.block _ (by simp)]; exact M0.out)
  have B1 := hid (B0.out.trans (hb1.mono (by simp; omega)))
  have X1 := hid (X0.out.below hb1 (by simp; omega))
  have O1 := hid (own_below O0.out hb1)
  have hs1 : w.heap.size + 2 ≤ w1.heap.size := by have := hb1.size; simpa using this
  clear hb1 t1 B0 X0 O0 M0
  go_wp2_with fail
  go_loopg [4, 17] k (fun r v iv wr => ∃ j : Nat, r = k - j ∧ j ≤ k ∧ iv = .int .i64 j ∧ Hid (∀ i, i < j → Rk.Er (at_ (lns X) i) 0) ∧ Hid (wr.ownsRow (w.heap.size + 1) 34 2 v j (rv (((lns X).map Rk.row).take j))) ∧ Hid (Below w.heap.size w wr) ∧ Hid (∀ g, v.ownBlock = some g → g = w.heap.size + 1 ∨ w1.heap.size ≤ g) ∧ Hid (∀ b, b < w1.heap.size → b ≠ w.heap.size + 1 → wr.heap[b]? = w1.heap[b]?) ∧ w1.heap.size ≤ wr.heap.size)
  case atStart => exact ⟨0, rfl, by omega, rfl, hid (fun i hi => by omega), O1, B1, hid (fun g hg => .inl (by simpa [Value.ownBlock] using hg.symm)), hid (fun b _ _ => rfl), Nat.le_refl _⟩
  case round =>
    obtain ⟨j, rfl, hj, rfl, HE, HO, HB, HG, HK, hsr⟩ := hrel
    have X2 := hid (show Bx2 wr w.heap.size 27 (.int .i64 0) (.int .i64 0) from (HK.out _ (by omega) (by omega)).trans X1.out)
    by_cases hlt : j < k
    · have k1 : (j : Int) < k := by omega
      have k0 : (0 : Int) ≤ j := by omega
      have e2 : IntKind.i64.wrap ((j : Int) + 1) = j + 1 := i64_in (by omega) (by omega)
      have k9 : ¬ (4096 : Int) ≤ j := by omega
      obtain ⟨b, off, rfl, hbl, hc⟩ := T1.out.at' (by omega)
      have q := hc j hlt
      have hbne : b ≠ w.heap.size + 1 := fun e => by
        subst e
        have := HM.out
        simp [World.cell?, this] at q
      obtain ⟨s, hs⟩ : ∃ s, at_ (lns X) j = s := ⟨_, rfl⟩
      have hss : s.size ≤ X.size := by rw [← hs]; exact Rk.lns_le
      rw [hs] at q
      have q2 : wr.cell? ⟨b, off + j, none⟩ = some (.string s) := by
        rw [← q]
        simp only [World.cell?, HK.out b hbl hbne]
      have HSS := hid hs
      clear hc hs q
      go_wp2_with fail
      refine (rwords_calls s _ (by omega)).mono ?_
      rintro e w2 ⟨a2, k2, c2, rfl, t2, hb2⟩
      have hl2 := t2.len
      have T2 := hid t2
      have B2 := hid (HB.out.trans (hb2.mono HB.out.size))
      have X3 := hid (X2.out.below hb2 X2.out.lt)
      have O2 := hid (own_below HO.out hb2)
      have K2 := hid (show ∀ b, b < w1.heap.size → b ≠ w.heap.size + 1 → w2.heap[b]? = w1.heap[b]? from fun b h1 h2 => (hb2.block b (by omega)).trans (HK.out b h1 h2))
      have hs2 : wr.heap.size ≤ w2.heap.size := hb2.size
      clear t2 hb2 q2 HB X2 HO HK
      by_cases hk2 : k2 = 2
      · subst hk2
        obtain ⟨b2, off2, rfl, hbl2, hc⟩ := T2.out.at' (by omega)
        have q0 : w2.cell? ⟨b2, off2, none⟩ = some (.string (Rk.w0 s)) := hc 0 (by omega)
        have q1 : w2.cell? ⟨b2, off2 + 1, none⟩ = some (.string (Rk.w1 s)) := hc 1 (by omega)
        have z0 : (Rk.w0 s).size ≤ s.size := Rk.wds_le
        have z1 : (Rk.w1 s).size ≤ s.size := Rk.wds_le
        clear hc
        rcases B6.good_or (bytesF (Rk.w0 s)) (Rk.w0 s).size with hG | ⟨p, hp⟩
        · have HG2 := hid hG
          clear hG
          go_wp2_with fail
          refine (rdecode_good (Rk.w0 s) (Rk.w0 s).size (bytesF (Rk.w0 s)) _ (by omega) (St.any _) HG2.out).mono ?_
          rintro e w3 ⟨rfl, hb3⟩
          rw [← hb3.cell (p := ⟨b2, off2 + 1, none⟩) hbl2] at q1
          have B3 := hid (B2.out.trans (hb3.mono B2.out.size))
          have X4 := hid (X3.out.below hb3 X3.out.lt)
          have O3 := hid (own_below O2.out hb3)
          have K3 := hid (show ∀ b, b < w1.heap.size → b ≠ w.heap.size + 1 → w3.heap[b]? = w1.heap[b]? from fun b h1 h2 => (hb3.block b (by omega)).trans (K2.out b h1 h2))
          have hs3 : w2.heap.size ≤ w3.heap.size := hb3.size
          clear hb3 B2 X3 O2 K2 q0
          rw [show str (B6.decF (bytesF (Rk.w0 s))) (B6.decN (bytesF (Rk.w0 s)) (Rk.w0 s).size) = Rk.tok s from rfl]
          go_wp2_with fail
          refine (rnumber_calls (Rk.w1 s) (Rk.w1 s).size (bytesF (Rk.w1 s)) _ (by omega) (St.any _)).mono ?_
          rintro e w4 ⟨ho, hw4⟩
          subst hw4
          rcases ho with ⟨hN, rfl⟩ | ⟨hN, rfl⟩
          · have HF := hid (show Rk.Form s from ⟨hl2, HG2.out, hN⟩)
            have hpos : 0 ≤ Rk.num s := (Ln.vF_bd hN.2.2.2).1
            have hneg : ¬ Rk.num s < 0 := by omega
            rw [show Ln.vF (bytesF (Rk.w1 s)) (Rk.w1 s).size = Rk.num s from rfl]
            clear hN
            by_cases h64 : 64 < (Rk.tok s).size
            · have h64' : (64 : Int) < (Rk.tok s).size := by omega
              have Y4 := hid (X4.out.alloc (.cells #[] 34))
              have B4 := hid (B3.out.alloc B3.out.size (.cells #[] 34))
              have q0' := Y4.out.cell0
              have q1' := Y4.out.cell1
              have p0' := Y4.out.fr0
              have p1' := Y4.out.fr1
              have Y5 := Y4.out.set0 (.int .i64 ((j : Int) + 1))
              have q3 := Y5.cell1
              have p3 := Y5.fr1
              have Y6 := Y5.set1 (.int .i64 7)
              have r0 := Y6.cell0
              have r1 := Y6.cell1
              have BB := hid (below_two B4.out (Nat.le_refl _) (.int .i64 ((j : Int) + 1)) (.int .i64 7))
              clear Y5 Y6
              go_wp2_with fail
              refine bodyPost_ret (v := .tuple #[.slice (some ⟨w4.heap.size, 0, none⟩) 0 0, .agg #[.int .i64 ((j : Int) + 1), .int .i64 7]]) (by simp [results, Try.results6, go_sem, r0, r1]) rfl ?_
              exact ⟨⟨[], _, 0, 0, (j : Int) + 1, 7, rfl, Rw.none _ _ _ (Nat.zero_le _) (fun _ => rfl), .inr ⟨j, by omega, HE.out, by rw [HSS.out]; exact .inr (.inl ⟨HF.out, h64, rfl⟩), by omega, rfl, rfl⟩⟩, BB.out⟩
            · have h64' : ¬ (64 : Int) < (Rk.tok s).size := by omega
              have hB3s := B3.out.size
              go_wp2_with (at_builtin; refine wpList_append_src rfl _ _ 24 rfl (w.heap.size + 1) 34 i0 (.agg #[.string ⟨#[]⟩, .int .i64 0]) 2 24 Try.underlying24 hi hz0 hz1 hz2 rfl (by decide) _ _ _ rfl (O3.out.alloc _) (some ⟨w4.heap.size, 0, none⟩) 1 1 [.string (Rk.tok s), .int .i64 (Rk.num s)] rfl (src_row (Rk.tok s) (Rk.num s) _) (by unfold maxLen; omega) (by omega) (by simp; omega) ?_)
              intro v5 w5 ho5 hg5 hob5
              have B5 := hid ((B3.out.alloc hB3s _).grown hg5 (by simp; omega) (fun j hj => by have := (O3.out.lt j hj).1; omega))
              have hs5 : w4.heap.size + 1 ≤ w5.heap.size := by have := hg5.size; simpa using this
              have K5 := hid (show ∀ b, b < w1.heap.size → b ≠ w.heap.size + 1 → w5.heap[b]? = w1.heap[b]? from fun b h1 h2 => by
                rw [hg5.block b (by simp; omega) (fun e => by rcases HG.out b e.symm with h | h <;> omega), Below.heap_alloc _ _ _ (by omega)]
                exact K3.out b h1 h2)
              have G5 := hid (show ∀ g, v5.ownBlock = some g → g = w.heap.size + 1 ∨ w1.heap.size ≤ g from fun g hg => by
                rcases hob5 with h | h
                · exact HG.out g (by rw [← h]; exact hg)
                · rw [h] at hg
                  simp at hg
                  exact .inr (by omega))
              have O5 := hid (show w5.ownsRow (w.heap.size + 1) 34 2 v5 (j + 1) (rv (((lns X).map Rk.row).take (j + 1))) by
                rw [rv_snoc] at ho5
                rw [Rk.take_row (by omega) HSS.out]
                exact ho5)
              clear ho5 hg5 hob5
              go_wp2_with fail
              go_roundg (k - (j + 1))
              case measure => omega
              case rel => exact ⟨j + 1, rfl, by omega, by go_num, hid (fun i hi => by
                by_cases h : i < j
                · exact HE.out i h
                · obtain rfl : i = j := by omega
                  rw [HSS.out]; exact .inr (.inr ⟨HF.out, by omega, rfl⟩)), O5, B5, G5, K5, by omega⟩
          · have HF := hid (show ¬ Rk.Form s from fun h => hN h.2.2)
            clear hN
            have Y4 := hid (X4.out.alloc (.cells #[] 34))
            have B4 := hid (B3.out.alloc B3.out.size (.cells #[] 34))
            have q0' := Y4.out.cell0
            have q1' := Y4.out.cell1
            have p0' := Y4.out.fr0
            have p1' := Y4.out.fr1
            have Y5 := Y4.out.set0 (.int .i64 ((j : Int) + 1))
            have q3 := Y5.cell1
            have p3 := Y5.fr1
            have Y6 := Y5.set1 (.int .i64 2)
            have r0 := Y6.cell0
            have r1 := Y6.cell1
            have BB := hid (below_two B4.out (Nat.le_refl _) (.int .i64 ((j : Int) + 1)) (.int .i64 2))
            clear Y5 Y6
            go_wp2_with fail
            refine bodyPost_ret (v := .tuple #[.slice (some ⟨w4.heap.size, 0, none⟩) 0 0, .agg #[.int .i64 ((j : Int) + 1), .int .i64 2]]) (by simp [results, Try.results6, go_sem, r0, r1]) rfl ?_
            exact ⟨⟨[], _, 0, 0, (j : Int) + 1, 2, rfl, Rw.none _ _ _ (Nat.zero_le _) (fun _ => rfl), .inr ⟨j, by omega, HE.out, by rw [HSS.out]; exact .inl ⟨HF.out, rfl⟩, by omega, rfl, rfl⟩⟩, BB.out⟩
        · have HP := hid hp
          have HF := hid (show ¬ Rk.Form s from fun h => B6.bad_not_good hp h.2.1)
          clear hp
          go_wp2_with fail
          refine (rdecode_bad (Rk.w0 s) (Rk.w0 s).size p (bytesF (Rk.w0 s)) _ (by omega) (St.any _) HP.out).mono ?_
          rintro e w3 ⟨rfl, hw3⟩
          subst hw3
          go_wp2_with fail
          refine (rnumber_calls (Rk.w1 s) (Rk.w1 s).size (bytesF (Rk.w1 s)) _ (by omega) (St.any _)).mono ?_
          rintro e w4 ⟨ho, hw4⟩
          subst hw4
          rcases ho with ⟨hN, rfl⟩ | ⟨hN, rfl⟩
          · clear hN
            have Y4 := hid (X3.out.alloc (.cells #[] 34))
            have B4 := hid (B2.out.alloc B2.out.size (.cells #[] 34))
            have q0' := Y4.out.cell0
            have q1' := Y4.out.cell1
            have p0' := Y4.out.fr0
            have p1' := Y4.out.fr1
            have Y5 := Y4.out.set0 (.int .i64 ((j : Int) + 1))
            have q3 := Y5.cell1
            have p3 := Y5.fr1
            have Y6 := Y5.set1 (.int .i64 2)
            have r0 := Y6.cell0
            have r1 := Y6.cell1
            have BB := hid (below_two B4.out (Nat.le_refl _) (.int .i64 ((j : Int) + 1)) (.int .i64 2))
            clear Y5 Y6
            go_wp2_with fail
            refine bodyPost_ret (v := .tuple #[.slice (some ⟨w4.heap.size, 0, none⟩) 0 0, .agg #[.int .i64 ((j : Int) + 1), .int .i64 2]]) (by simp [results, Try.results6, go_sem, r0, r1]) rfl ?_
            exact ⟨⟨[], _, 0, 0, (j : Int) + 1, 2, rfl, Rw.none _ _ _ (Nat.zero_le _) (fun _ => rfl), .inr ⟨j, by omega, HE.out, by rw [HSS.out]; exact .inl ⟨HF.out, rfl⟩, by omega, rfl, rfl⟩⟩, BB.out⟩
          · clear hN
            have Y4 := hid (X3.out.alloc (.cells #[] 34))
            have B4 := hid (B2.out.alloc B2.out.size (.cells #[] 34))
            have q0' := Y4.out.cell0
            have q1' := Y4.out.cell1
            have p0' := Y4.out.fr0
            have p1' := Y4.out.fr1
            have Y5 := Y4.out.set0 (.int .i64 ((j : Int) + 1))
            have q3 := Y5.cell1
            have p3 := Y5.fr1
            have Y6 := Y5.set1 (.int .i64 2)
            have r0 := Y6.cell0
            have r1 := Y6.cell1
            have BB := hid (below_two B4.out (Nat.le_refl _) (.int .i64 ((j : Int) + 1)) (.int .i64 2))
            clear Y5 Y6
            go_wp2_with fail
            refine bodyPost_ret (v := .tuple #[.slice (some ⟨w4.heap.size, 0, none⟩) 0 0, .agg #[.int .i64 ((j : Int) + 1), .int .i64 2]]) (by simp [results, Try.results6, go_sem, r0, r1]) rfl ?_
            exact ⟨⟨[], _, 0, 0, (j : Int) + 1, 2, rfl, Rw.none _ _ _ (Nat.zero_le _) (fun _ => rfl), .inr ⟨j, by omega, HE.out, by rw [HSS.out]; exact .inl ⟨HF.out, rfl⟩, by omega, rfl, rfl⟩⟩, BB.out⟩
      · have HF := hid (show ¬ Rk.Form s from fun h => hk2 (by rw [← hl2]; exact h.1))
        have hk2' : ¬ (k2 : Int) = 2 := by omega
        have Y4 := hid (X3.out.alloc (.cells #[] 34))
        have B4 := hid (B2.out.alloc B2.out.size (.cells #[] 34))
        have q0' := Y4.out.cell0
        have q1' := Y4.out.cell1
        have p0' := Y4.out.fr0
        have p1' := Y4.out.fr1
        have Y5 := Y4.out.set0 (.int .i64 ((j : Int) + 1))
        have q3 := Y5.cell1
        have p3 := Y5.fr1
        have Y6 := Y5.set1 (.int .i64 2)
        have r0 := Y6.cell0
        have r1 := Y6.cell1
        have BB := hid (below_two B4.out (Nat.le_refl _) (.int .i64 ((j : Int) + 1)) (.int .i64 2))
        clear Y5 Y6
        go_wp2_with fail
        refine bodyPost_ret (v := .tuple #[.slice (some ⟨w2.heap.size, 0, none⟩) 0 0, .agg #[.int .i64 ((j : Int) + 1), .int .i64 2]]) (by simp [results, Try.results6, go_sem, r0, r1]) rfl ?_
        exact ⟨⟨[], _, 0, 0, (j : Int) + 1, 2, rfl, Rw.none _ _ _ (Nat.zero_le _) (fun _ => rfl), .inr ⟨j, by omega, HE.out, by rw [HSS.out]; exact .inl ⟨HF.out, rfl⟩, by omega, rfl, rfl⟩⟩, BB.out⟩
    · obtain rfl : j = k := by omega
      have k1 : ¬ (j : Int) < j := by omega
      obtain ⟨a5, c5, rfl, hr5⟩ := Rw.ofOwn HO.out
      have R5 := hid (Rw.ofOwn' (own_two HO.out (B := w.heap.size) (by omega) (.int .i64 0) (.int .i64 0)))
      rw [List.take_of_length_le (by rw [List.length_map]; omega)] at R5
      clear hr5 HO
      have q0' := X2.out.cell0
      have q1' := X2.out.cell1
      have p0' := X2.out.fr0
      have p1' := X2.out.fr1
      have X5 := X2.out.set0 (.int .i64 0)
      have q3 := X5.cell1
      have p3 := X5.fr1
      have X6 := X5.set1 (.int .i64 0)
      have r0 := X6.cell0
      have r1 := X6.cell1
      have BB := hid (below_two HB.out (Nat.le_refl _) (.int .i64 0) (.int .i64 0))
      clear X5 X6
      go_wp2_with fail
      refine bodyPost_ret (v := .tuple #[.slice a5 j c5, .agg #[.int .i64 0, .int .i64 0]]) (by simp [results, Try.results6, go_sem, r0, r1]) rfl ?_
      exact ⟨⟨(lns X).map Rk.row, a5, j, c5, 0, 0, rfl, R5.out, .inl ⟨fun i hi => HE.out i (by omega), rfl, rfl, rfl⟩⟩, BB.out⟩
end Go.Proofs.Ythemaacfjmcbnaa
