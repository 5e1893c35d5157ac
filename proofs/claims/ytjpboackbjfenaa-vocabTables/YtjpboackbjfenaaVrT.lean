/-
  Walk of the reference's FromTables.
-/
import Derived.Test.YtjpboackbjfenaaVrF
import Derived.Test.YtjpboackbjfenaaVcTb
namespace Go.Proofs.Ytjpboackbjfenaa
open Go.RowKit Go.Maps
set_option linter.unusedVariables false

/-- What the reference's FromTables answers. -/
def RtOut (rs : Vc.Sps) (ps : List (ByteArray × ByteArray)) (sp : Vc.Sps) (e : Ending) (w' : World) : Prop :=
  (∃ ts ms sp' a n c am nm cm az ns cs, Vc.TabIs rs ps sp ts ms sp' ∧ e = .returned (.tuple #[.agg #[.slice a n c, .slice am nm cm, .slice az ns cs], .bool true]) ∧ Vo w' a n c am nm cm az ns cs ts ms sp') ∨
  (Vc.NoTab rs ps sp ∧ e = .returned (.tuple #[.agg #[.slice none 0 0, .slice none 0 0, .slice none 0 0], .bool false]))

set_option maxRecDepth 100000 in
set_option maxHeartbeats 6400000 in
theorem rfromTables_calls {w : World} {a b az : Option Addr} {n c m d ns cs : Nat} {rs sp : Vc.Sps} {ps : List (ByteArray × ByteArray)} (V : Rw w a n c rs) (U : Pw w b m d ps) (Q : Rw w az ns cs sp) (hn : n ≤ 1000) (hns : ns ≤ 1000) (hm : m ≤ 1000000) (hpz : ∀ i, i < ps.length → (lat ps i).size ≤ 80 ∧ (gat ps i).size ≤ 80) (hzs : ∀ i, i < sp.length → (tat sp i).size ≤ 1000000) :
    Calls Try.prog 18 #[.agg #[.slice a n c, .slice b m d], .slice az ns cs] w fun e w' => RtOut rs ps sp e w' ∧ Below w.heap.size w w' := by
  have hlp := U.len
  have A0 := hid ((Bx2.new w 42 (.slice a n c) (.slice b m d)).alloc (.cells #[.slice none 0 0, .slice none 0 0, .slice none 0 0] 26))
  have B0 := hid (((Below.refl w.heap.size w).alloc (Nat.le_refl _) (.cells #[.slice a n c, .slice b m d] 42)).alloc (by simp) (.cells #[.slice none 0 0, .slice none 0 0, .slice none 0 0] 26))
  have R0 := hid (Bx3.new (w.alloc (.cells #[.slice a n c, .slice b m d] 42)) 26 (.slice none 0 0) (.slice none 0 0) (.slice none 0 0))
  rw [show (w.alloc (.cells #[.slice a n c, .slice b m d] 42)).heap.size = w.heap.size + 1 by simp] at R0
  have s0 : ((w.alloc (.cells #[.slice a n c, .slice b m d] 42)).alloc (.cells #[.slice none 0 0, .slice none 0 0, .slice none 0 0] 26)).heap.size = w.heap.size + 2 := by simp
  have V0 := hid (V.below B0.out)
  have U0 := hid (U.below B0.out)
  have Q0 := hid (Q.below B0.out)
  have HZs := hid hzs
  have HPz := hid hpz
  clear V U Q hzs hpz
  obtain ⟨i0, hi, hz0, hz1, hz2⟩ := info_parts Try.infoMg
  obtain ⟨W, hW⟩ : ∃ W, (w.alloc (.cells #[.slice a n c, .slice b m d] 42)).alloc (.cells #[.slice none 0 0, .slice none 0 0, .slice none 0 0] 26) = W := ⟨_, rfl⟩
  rw [hW] at A0 B0 R0 s0 V0 U0 Q0
  have a0 := A0.out.cell0
  go_enter Try.func18, Try.ntmps18
  go_wp2_with fail
  try rw [hW]
  clear hW
  go_wp2_with fail
  refine (rbase_calls V0.out Q0.out hn hns).mono ?_
  rintro e w1 ⟨E1, b1⟩
  have R1 := hid (R0.out.below b1 R0.out.lt)
  have A1 := hid (A0.out.below b1 A0.out.lt)
  have U1 := hid (U0.out.below b1)
  have B1 := hid (B0.out.trans (b1.mono B0.out.size))
  have hw1 := b1.size
  rw [s0] at E1 hw1
  clear b1 B0 R0 V0 U0 Q0 A0 a0
  rcases E1 with ⟨hR, ts, sp', bb, z1, zn, zc, t, ⟨hb, hzh⟩, hT, hM, hS, rfl, hTs, hRs⟩ | ⟨hno, rfl⟩
  · obtain ⟨N, hN⟩ : ∃ N, ts.length = N := ⟨_, rfl⟩
    have HN := hid hN
    have HT := hid hT
    rw [hN] at hTs ⊢
    clear hN
    have R2 := hid (R1.out.alloc (.cells #[.slice (some ⟨bb, 0, none⟩) N N, .slice none 0 0, .slice z1 zn zc] 26))
    have B2 := hid (B1.out.alloc B1.out.size (.cells #[.slice (some ⟨bb, 0, none⟩) N N, .slice none 0 0, .slice z1 zn zc] 26))
    cases t
    · have HF := hid (Vc.noTab_tok (ps := ps) hT (fun h => absurd (hM.2 h) (by decide)))
      clear hR hT hM hS hTs hRs hzh
      obtain ⟨y1, y2, y3⟩ := ret_three R2.out (.slice none 0 0) (.slice none 0 0) (.slice none 0 0)
      have BB := hid (below_three B2.out (R := w.heap.size + 1) (by omega) (.slice none 0 0) (.slice none 0 0) (.slice none 0 0))
      have p0 := R2.out.cell0
      have p1 := R2.out.cell1
      have p2 := R2.out.cell2
      have q0 := R2.out.fr 0
      have q1 := R2.out.fr 1
      have q2 := R2.out.fr 2
      have u1 := y1.cell1
      have v1 := y1.fr 1
      have u2 := y2.cell2
      have v2 := y2.fr 2
      have r0 := y3.cell0
      have r1 := y3.cell1
      have r2 := y3.cell2
      unfold three at r0 r1 r2
      clear y1 y2 y3
      go_wp2_with fail
      refine bodyPost_ret (v := .tuple #[.agg #[.slice none 0 0, .slice none 0 0, .slice none 0 0], .bool false]) (by simp [results, Try.results18, go_sem, r0, r1, r2]) rfl ?_
      exact ⟨.inr ⟨HF.out, rfl⟩, BB.out⟩
    · have hMT := hM.1 rfl
      have HM := hid hMT
      have HR := hid hR
      have HS := hid hS
      have T1 := hid hTs
      have Q1 := hid hRs
      have HH := hid hzh
      have Hb := hid (show Hi (w.heap.size + 2) (some ⟨bb, 0, none⟩) from hi_some hb)
      have hN4 : N ≤ 4096 := by rw [← HN.out]; exact hMT.len
      clear hR hT hM hS hTs hRs hzh hMT
      obtain ⟨K, hK⟩ : ∃ K, w1.heap.size = K := ⟨_, rfl⟩
      have X2 := hid (Bx3.new w1 26 (.slice (some ⟨bb, 0, none⟩) N N) (.slice none 0 0) (.slice z1 zn zc))
      have C2 := hid ((Below.refl w1.heap.size w1).alloc (Nat.le_refl _) (.cells #[.slice (some ⟨bb, 0, none⟩) N N, .slice none 0 0, .slice z1 zn zc] 26))
      have A2 := hid (A1.out.alloc (.cells #[.slice (some ⟨bb, 0, none⟩) N N, .slice none 0 0, .slice z1 zn zc] 26))
      have x0 := X2.out.cell0
      have a1 := A2.out.cell1
      rw [hK] at X2 hw1 x0
      go_wp2_with fail
      try rw [hK]
      go_loopg [25] m (fun r iv wr => ∃ (j : Nat) (v : Value) (ms : List Mg4), r = m - j ∧ iv = .int .i64 (j : Int) ∧ j ≤ m ∧ Hid (Vc.PairsIs ts ps j ms) ∧ Hid (wr.ownsRow (K + 1) 54 4 v j (mv ms)) ∧ Hid (Bx3 wr K 26 (.slice (some ⟨bb, 0, none⟩) N N) v (.slice z1 zn zc)) ∧ Hid (Below K w1 wr))
      case atStart => exact ⟨0, .slice none 0 0, [], rfl, rfl, by omega, hid (Vc.PairsIs.nil ts ps), hid ⟨by simp [mv], .inl ⟨rfl, rfl⟩⟩, X2, by rw [← hK]; exact C2⟩
      case round =>
        clear x0 a1 X2 A2
        obtain ⟨j, v, ms, rfl, rfl, hj, HI, O3, X3, B3⟩ := hrel
        obtain ⟨W3, hW3⟩ : ∃ W3, W3 = wr := ⟨_, rfl⟩
        subst hW3
        by_cases hlt : j < m
        · have l0 : (0 : Int) ≤ j := by omega
          have l1 : (j : Int) < m := by omega
          have l2 : IntKind.i64.wrap ((j : Int) + 1) = j + 1 := i64_in (by omega) (by omega)
          have T3 := hid (T1.out.below (hK ▸ B3.out))
          have A3 := hid (A1.out.below B3.out (by have := A1.out.lt; omega))
          obtain ⟨b0, off, rfl, hb3, hc⟩ := (U1.out.below (hK ▸ B3.out)).at' (by omega)
          obtain ⟨p1, p2⟩ := hc j hlt
          obtain ⟨hz1', hz2'⟩ := HPz.out j (by omega)
          obtain ⟨s, hs⟩ : ∃ t, lat ps j = t := ⟨_, rfl⟩
          obtain ⟨t, ht⟩ : ∃ t, gat ps j = t := ⟨_, rfl⟩
          rw [hs] at p1 hz1'
          rw [ht] at p2 hz2'
          have HSs := hid hs
          have HTt := hid ht
          clear hc hs ht
          have hst : ¬ 9223372036854775807 < s.size + t.size := by omega
          have x0 := X3.out.cell0
          have a1 := A3.out.cell1
          have QF := hid (fun q s => rofZ_calls (T3.out.below (below_drewN (Below.refl _ _) q)) HM.out s)
          go_wp2_with fail
          go_quiet (exact Calls.quiet_of_same (QF.out _ _))
          obtain ⟨W4, hW4⟩ : ∃ W', W3.drewN nq = W' := ⟨_, rfl⟩
          have bb' : Below W3.heap.size W3 W4 := hW4 ▸ below_drewN (Below.refl _ _) nq
          have X4 := hid (X3.out.below bb' X3.out.lt)
          have A4 := hid (A3.out.below bb' A3.out.lt)
          have O4 := hid (own_below O3.out bb')
          have B4 := hid (B3.out.trans (bb'.mono (by have := B3.out.size; omega)))
          have T4 := hid (T3.out.below bb')
          have p1 := (bb'.cell (p := ⟨b0, off + j * 2, none⟩) hb3).trans p1
          have p2 := (bb'.cell (p := ⟨b0, off + j * 2 + 1, none⟩) hb3).trans p2
          have hb4 := Nat.lt_of_lt_of_le hb3 bb'.size
          have x0 := X4.out.cell0
          have a1 := A4.out.cell1
          rw [hW4]
          clear hW4 bb' X3 A3 O3 B3 T3 QF hb3
          have QF := hid (fun q s => rofZ_calls (T4.out.below (below_drewN (Below.refl _ _) q)) HM.out s)
          go_wp2_with fail
          go_quiet (exact Calls.quiet_of_same (QF.out _ _))
          obtain ⟨W5, hW5⟩ : ∃ W', W4.drewN nq = W' := ⟨_, rfl⟩
          have bb' : Below W4.heap.size W4 W5 := hW5 ▸ below_drewN (Below.refl _ _) nq
          have X5 := hid (X4.out.below bb' X4.out.lt)
          have A5 := hid (A4.out.below bb' A4.out.lt)
          have O5 := hid (own_below O4.out bb')
          have B5 := hid (B4.out.trans (bb'.mono (by have := B4.out.size; omega)))
          have T5 := hid (T4.out.below bb')
          have p1 := (bb'.cell (p := ⟨b0, off + j * 2, none⟩) hb4).trans p1
          have p2 := (bb'.cell (p := ⟨b0, off + j * 2 + 1, none⟩) hb4).trans p2
          have hb5 := Nat.lt_of_lt_of_le hb4 bb'.size
          have x0 := X5.out.cell0
          have a1 := A5.out.cell1
          rw [hW5]
          clear hW5 bb' X4 A4 O4 B4 T4 QF hb4
          have QF := hid (fun q s => rofZ_calls (T5.out.below (below_drewN (Below.refl _ _) q)) HM.out s)
          go_wp2_with fail
          go_quiet (exact Calls.quiet_of_same (QF.out _ _))
          obtain ⟨W6, hW6⟩ : ∃ W', W5.drewN nq = W' := ⟨_, rfl⟩
          have bb' : Below W5.heap.size W5 W6 := hW6 ▸ below_drewN (Below.refl _ _) nq
          have X6 := hid (X5.out.below bb' X5.out.lt)
          have A6 := hid (A5.out.below bb' A5.out.lt)
          have O6 := hid (own_below O5.out bb')
          have B6 := hid (B5.out.trans (bb'.mono (by have := B5.out.size; omega)))
          have T6 := hid (T5.out.below bb')
          have p1 := (bb'.cell (p := ⟨b0, off + j * 2, none⟩) hb5).trans p1
          have p2 := (bb'.cell (p := ⟨b0, off + j * 2 + 1, none⟩) hb5).trans p2
          have hb6 := Nat.lt_of_lt_of_le hb5 bb'.size
          have x0 := X6.out.cell0
          have a1 := A6.out.cell1
          rw [hW6]
          clear hW6 bb' X5 A5 O5 B5 T5 QF hb5
          clear T6 A6 p1 p2 a1 x0
          have C1 := hid (ofZ_ways ts s)
          have C2' := hid (ofZ_ways ts t)
          have C3 := hid (ofZ_ways ts (s ++ t))
          obtain ⟨u1, hu1⟩ : ∃ u, Vc.ofZ ts s = u := ⟨_, rfl⟩
          obtain ⟨u2, hu2⟩ : ∃ u, Vc.ofZ ts t = u := ⟨_, rfl⟩
          obtain ⟨u3, hu3⟩ : ∃ u, Vc.ofZ ts (s ++ t) = u := ⟨_, rfl⟩
          rw [hu1] at C1
          rw [hu2] at C2'
          rw [hu3] at C3
          try rw [hu1]
          try rw [hu2]
          try rw [hu3]
          clear hu1 hu2 hu3
          have R6 := hid (R1.out.below B6.out (by have := R1.out.lt; omega))
          have BW := hid (B1.out.trans (B6.out.mono (by have := B1.out.size; omega)))
          rcases C1.out with ⟨k1, n1, rfl, _⟩ | ⟨n1, rfl⟩
          · have v1 : ¬ (k1 : Int) < 0 := by omega
            have d1 : decide ((k1 : Int) < 0) = false := decide_eq_false v1
            rcases C2'.out with ⟨k2, n2, rfl, _⟩ | ⟨n2, rfl⟩
            · have v2 : ¬ (k2 : Int) < 0 := by omega
              have d2 : decide ((k2 : Int) < 0) = false := decide_eq_false v2
              rcases C3.out with ⟨k3, n3, rfl, _⟩ | ⟨n3, rfl⟩
              · have v3' : ¬ (k3 : Int) < 0 := by omega
                have d3 : decide ((k3 : Int) < 0) = false := decide_eq_false v3'
                have HA := hid (show Vc.PairAt ts ps j ((k1 : Int), (k2 : Int), (k3 : Int), (j : Int)) from ⟨k1, k2, k3, by rw [HSs.out]; exact n1, by rw [HTt.out]; exact n2, by rw [HSs.out, HTt.out]; exact n3, rfl⟩)
                clear n1 n2 n3 C1 C2' C3 R6 BW
                have OB := hid (own_at O6.out)
                have hKb := own_block O6.out (B := K) (by omega)
                have x1 := X6.out.cell1
                have hK6 := B6.out.size
                go_wp2_with (at_builtin; refine wpList_append_src rfl _ _ 23 rfl (K + 1) 54 i0 (.agg #[.int .i64 0, .int .i64 0, .int .i64 0, .int .i64 0]) 4 32 Try.underlying23 hi hz0 hz1 hz2 rfl (by decide) _ j _ rfl (O6.out.alloc _) (some ⟨W6.heap.size, 0, none⟩) 1 1 [.int .i64 (k1 : Int), .int .i64 (k2 : Int), .int .i64 (k3 : Int), .int .i64 (j : Int)] rfl (src_merge (k1 : Int) (k2 : Int) (k3 : Int) (j : Int) _) (by unfold maxLen; omega) (by omega) (by have := X6.out.lt; simp; omega) ?_; intro v3 w3 own gr loc; rw [mv_snoc] at own; obtain ⟨a7, c7, rfl, hq7⟩ := Qw.ofOwn own; clear hq7; have O7 := hid own; have G7 := hid gr; clear own gr loc; have X7 := hid ((X6.out.alloc (.cells #[.int .i64 (k1 : Int), .int .i64 (k2 : Int), .int .i64 (k3 : Int), .int .i64 (j : Int)] 54)).kept G7.out (fun h => hKb h.symm)); have y1 := X7.out.cell1; have g1 := X7.out.fr 1; clear x1)
                have X8 := hid (X7.out.set1 (.slice a7 (j + 1) c7))
                have O8 := hid (own_set (j := 1) O7.out (own_block O7.out (B := K) (by omega)) (.slice a7 (j + 1) c7))
                have B8 := hid (((B6.out.alloc (by have := B6.out.size; omega) (.cells #[.int .i64 (k1 : Int), .int .i64 (k2 : Int), .int .i64 (k3 : Int), .int .i64 (j : Int)] 54)).grown G7.out (by have := B6.out.size; simp; omega) (fun q hq => by have := OB.out q hq; omega)).setCell (p := ⟨K, 1, none⟩) (Nat.le_refl _) (.slice a7 (j + 1) c7))
                go_roundg (m - (j + 1))
                case measure => omega
                case rel =>
                  exact ⟨j + 1, .slice a7 (j + 1) c7, ms ++ [((k1 : Int), (k2 : Int), (k3 : Int), (j : Int))], rfl, by go_num, by omega, hid (HI.out.snoc HA.out), O8, X8, B8⟩
              · have HF := hid (Vc.noTab_pair (ps := ps) HT.out (show j < ps.length by omega) (fun m ⟨_, _, _, _, _, h, _⟩ => by rw [HSs.out, HTt.out, n3] at h; cases h))
                clear n1 n2 n3 C1 C2' C3
                obtain ⟨y1, y2, y3⟩ := ret_three R6.out (.slice none 0 0) (.slice none 0 0) (.slice none 0 0)
                have BB := hid (below_three BW.out (R := w.heap.size + 1) (by omega) (.slice none 0 0) (.slice none 0 0) (.slice none 0 0))
                have p0 := R6.out.cell0
                have p1 := R6.out.cell1
                have p2 := R6.out.cell2
                have q0 := R6.out.fr 0
                have q1 := R6.out.fr 1
                have q2 := R6.out.fr 2
                have u1 := y1.cell1
                have v1 := y1.fr 1
                have u2 := y2.cell2
                have v2 := y2.fr 2
                have r0 := y3.cell0
                have r1 := y3.cell1
                have r2 := y3.cell2
                unfold three at r0 r1 r2
                clear y1 y2 y3
                go_wp2_with fail
                refine bodyPost_ret (v := .tuple #[.agg #[.slice none 0 0, .slice none 0 0, .slice none 0 0], .bool false]) (by simp [results, Try.results18, go_sem, r0, r1, r2]) rfl ?_
                exact ⟨.inr ⟨HF.out, rfl⟩, BB.out⟩
            · have HF := hid (Vc.noTab_pair (ps := ps) HT.out (show j < ps.length by omega) (fun m ⟨_, _, _, _, h, _, _⟩ => by rw [HTt.out, n2] at h; cases h))
              clear n1 n2 C1 C2' C3
              obtain ⟨y1, y2, y3⟩ := ret_three R6.out (.slice none 0 0) (.slice none 0 0) (.slice none 0 0)
              have BB := hid (below_three BW.out (R := w.heap.size + 1) (by omega) (.slice none 0 0) (.slice none 0 0) (.slice none 0 0))
              have p0 := R6.out.cell0
              have p1 := R6.out.cell1
              have p2 := R6.out.cell2
              have q0 := R6.out.fr 0
              have q1 := R6.out.fr 1
              have q2 := R6.out.fr 2
              have u1 := y1.cell1
              have v1 := y1.fr 1
              have u2 := y2.cell2
              have v2 := y2.fr 2
              have r0 := y3.cell0
              have r1 := y3.cell1
              have r2 := y3.cell2
              unfold three at r0 r1 r2
              clear y1 y2 y3
              go_wp2_with fail
              refine bodyPost_ret (v := .tuple #[.agg #[.slice none 0 0, .slice none 0 0, .slice none 0 0], .bool false]) (by simp [results, Try.results18, go_sem, r0, r1, r2]) rfl ?_
              exact ⟨.inr ⟨HF.out, rfl⟩, BB.out⟩
          · have HF := hid (Vc.noTab_pair (ps := ps) HT.out (show j < ps.length by omega) (fun m ⟨_, _, _, h, _, _, _⟩ => by rw [HSs.out, n1] at h; cases h))
            clear n1 C1 C2' C3
            obtain ⟨y1, y2, y3⟩ := ret_three R6.out (.slice none 0 0) (.slice none 0 0) (.slice none 0 0)
            have BB := hid (below_three BW.out (R := w.heap.size + 1) (by omega) (.slice none 0 0) (.slice none 0 0) (.slice none 0 0))
            have p0 := R6.out.cell0
            have p1 := R6.out.cell1
            have p2 := R6.out.cell2
            have q0 := R6.out.fr 0
            have q1 := R6.out.fr 1
            have q2 := R6.out.fr 2
            have u1 := y1.cell1
            have v1 := y1.fr 1
            have u2 := y2.cell2
            have v2 := y2.fr 2
            have r0 := y3.cell0
            have r1 := y3.cell1
            have r2 := y3.cell2
            unfold three at r0 r1 r2
            clear y1 y2 y3
            go_wp2_with fail
            refine bodyPost_ret (v := .tuple #[.agg #[.slice none 0 0, .slice none 0 0, .slice none 0 0], .bool false]) (by simp [results, Try.results18, go_sem, r0, r1, r2]) rfl ?_
            exact ⟨.inr ⟨HF.out, rfl⟩, BB.out⟩
        · have hjm : j = ps.length := by omega
          have l1 : ¬ (j : Int) < m := by omega
          have HC := hid (show Vc.PairsIs ts ps ps.length ms from hjm ▸ HI.out)
          obtain ⟨am, cm, rfl, hq⟩ := Qw.ofOwn O3.out
          have HHm := hid (hi_own O3.out)
          have T3 := hid (T1.out.below (hK ▸ B3.out))
          have S3 := hid (Q1.out.below (hK ▸ B3.out))
          have R3 := hid (R1.out.below B3.out (by have := R1.out.lt; omega))
          have BW := hid (B1.out.trans (B3.out.mono (hK ▸ B1.out.size)))
          have V3 := hid (show Vo W3 (some ⟨bb, 0, none⟩) N N am j cm z1 zn zc ts ms sp' from ⟨T3.out, hq, S3.out⟩)
          have x0 := X3.out.cell0
          have x1 := X3.out.cell1
          have x2 := X3.out.cell2
          clear T3 S3 hjm hq
          go_wp2_with fail
          refine (rmay_calls V3.out (sp_small HS.out HZs.out)).mono ?_
          rintro e w8 ⟨⟨t, rfl, ht⟩, b8⟩
          have HMay := hid ht
          have R8 := hid (R3.out.below b8 R3.out.lt)
          have V8 := hid (V3.out.below b8)
          have X8 := hid (X3.out.below b8 X3.out.lt)
          have B8 := hid (BW.out.trans (b8.mono BW.out.size))
          clear ht b8 R3 V3 X3 BW x0 x1 x2
          cases t
          · have HF := hid (Vc.noTab_may (ps := ps) HT.out HC.out HS.out (fun h => absurd (HMay.out.2 h) (by decide)))
            obtain ⟨y1, y2, y3⟩ := ret_three R8.out (.slice none 0 0) (.slice none 0 0) (.slice none 0 0)
            have BB := hid (below_three B8.out (R := w.heap.size + 1) (by omega) (.slice none 0 0) (.slice none 0 0) (.slice none 0 0))
            have p0 := R8.out.cell0
            have p1 := R8.out.cell1
            have p2 := R8.out.cell2
            have q0 := R8.out.fr 0
            have q1 := R8.out.fr 1
            have q2 := R8.out.fr 2
            have u1 := y1.cell1
            have v1 := y1.fr 1
            have u2 := y2.cell2
            have v2 := y2.fr 2
            have r0 := y3.cell0
            have r1 := y3.cell1
            have r2 := y3.cell2
            unfold three at r0 r1 r2
            clear y1 y2 y3
            go_wp2_with fail
            refine bodyPost_ret (v := .tuple #[.agg #[.slice none 0 0, .slice none 0 0, .slice none 0 0], .bool false]) (by simp [results, Try.results18, go_sem, r0, r1, r2]) rfl ?_
            exact ⟨.inr ⟨HF.out, rfl⟩, BB.out⟩
          · have HF := hid (show Vc.TabIs rs ps sp ts ms sp' from ⟨HR.out, HT.out, HC.out, HS.out, HMay.out.1 rfl⟩)
            have x0 := X8.out.cell0
            have x1 := X8.out.cell1
            have x2 := X8.out.cell2
            have V9 := hid (V8.out.mut (mut_three w8 (w.heap.size + 1) (.slice (some ⟨bb, 0, none⟩) N N) (.slice am j cm) (.slice z1 zn zc) (S := fun i => i = w.heap.size + 1) rfl) Hb.out (HHm.out.mono (by omega)) HH.out (fun i hi => by omega))
            obtain ⟨y1, y2, y3⟩ := ret_three R8.out (.slice (some ⟨bb, 0, none⟩) N N) (.slice am j cm) (.slice z1 zn zc)
            have BB := hid (below_three B8.out (R := w.heap.size + 1) (by omega) (.slice (some ⟨bb, 0, none⟩) N N) (.slice am j cm) (.slice z1 zn zc))
            have p0 := R8.out.cell0
            have p1 := R8.out.cell1
            have p2 := R8.out.cell2
            have q0 := R8.out.fr 0
            have q1 := R8.out.fr 1
            have q2 := R8.out.fr 2
            have u1 := y1.cell1
            have v1 := y1.fr 1
            have u2 := y2.cell2
            have v2 := y2.fr 2
            have r0 := y3.cell0
            have r1 := y3.cell1
            have r2 := y3.cell2
            unfold three at r0 r1 r2
            clear y1 y2 y3
            go_wp2_with fail
            refine bodyPost_ret (v := .tuple #[.agg #[.slice (some ⟨bb, 0, none⟩) N N, .slice am j cm, .slice z1 zn zc], .bool true]) (by simp [results, Try.results18, go_sem, r0, r1, r2]) rfl ?_
            exact ⟨.inl ⟨ts, ms, sp', _, _, _, am, j, cm, z1, zn, zc, HF.out, rfl, V9.out⟩, BB.out⟩
  · have HF := hid (Vc.noTab_ranks (ps := ps) hno)
    clear hno
    have R2 := hid (R1.out.alloc (.cells #[.slice none 0 0, .slice none 0 0, .slice none 0 0] 26))
    have B2 := hid (B1.out.alloc B1.out.size (.cells #[.slice none 0 0, .slice none 0 0, .slice none 0 0] 26))
    obtain ⟨y1, y2, y3⟩ := ret_three R2.out (.slice none 0 0) (.slice none 0 0) (.slice none 0 0)
    have BB := hid (below_three B2.out (R := w.heap.size + 1) (by omega) (.slice none 0 0) (.slice none 0 0) (.slice none 0 0))
    have p0 := R2.out.cell0
    have p1 := R2.out.cell1
    have p2 := R2.out.cell2
    have q0 := R2.out.fr 0
    have q1 := R2.out.fr 1
    have q2 := R2.out.fr 2
    have u1 := y1.cell1
    have v1 := y1.fr 1
    have u2 := y2.cell2
    have v2 := y2.fr 2
    have r0 := y3.cell0
    have r1 := y3.cell1
    have r2 := y3.cell2
    unfold three at r0 r1 r2
    clear y1 y2 y3
    go_wp2_with fail
    refine bodyPost_ret (v := .tuple #[.agg #[.slice none 0 0, .slice none 0 0, .slice none 0 0], .bool false]) (by simp [results, Try.results18, go_sem, r0, r1, r2]) rfl ?_
    exact ⟨.inr ⟨HF.out, rfl⟩, BB.out⟩
end Go.Proofs.Ytjpboackbjfenaa
