/-
  The walk of the reference's Read.
-/
import Derived.Test.YtecbmonbeogdjaaMgR1
namespace Go.Proofs.Ytecbmonbeogdjaa
open Go.RowKit
set_option linter.unusedVariables false

/-- What the reference's Read answers of a file of these lines. -/
def MfOut (ls : List ByteArray) (e : Ending) (w' : World) : Prop :=
  ∃ rs ps ar nr cr ap np cp line err, e = .returned (.agg #[.slice ar nr cr, .slice ap np cp, .int .i64 line, .int .i64 err]) ∧ Rw w' ar nr cr rs ∧ Pw w' ap np cp ps ∧ Mg.FileIs ls rs ps line err
theorem MfOut.bad {ls : List ByteArray} {w' : World} {line err : Int} (h : Mg.FileIs ls [] [] line err) : MfOut ls (.returned (.agg #[.slice none 0 0, .slice none 0 0, .int .i64 line, .int .i64 err])) w' :=
  ⟨[], [], none, 0, 0, none, 0, 0, line, err, rfl, Rw.none _ _ _ (Nat.zero_le _) (fun _ => rfl), Pw.none _ _ _ (Nat.zero_le _) (fun _ => rfl), h⟩

set_option maxRecDepth 100000 in
set_option maxHeartbeats 3200000 in
theorem rfRead_calls (X : ByteArray) (w : World) (hXs : X.size ≤ 100000) (hk : (lns X).length ≤ 4096) :
    Calls Try.prog 6 #[.string X] w fun e w' => MfOut (lns X) e w' ∧ Below w.heap.size w w' := by
  obtain ⟨i0, hi, hz0, hz1, hz2⟩ := info_parts Try.infoR
  obtain ⟨j0, gi, gz0, gz1, gz2⟩ := info_parts Try.infoP
  have B0 := hid ((Below.refl w.heap.size w).alloc (Nat.le_refl _) (.cells #[.slice none 0 0, .slice none 0 0, .int .i64 0, .int .i64 0] 34))
  have X0 := hid (Bx4.new w 34 (.slice none 0 0) (.slice none 0 0) (.int .i64 0) (.int .i64 0))
  go_enter Try.func6, Try.ntmps6
  go_wp2_with fail
  refine (rlines_calls X _ hXs).mono ?_
  rintro e w1 ⟨a1, k, c1, rfl, t1, hb1⟩
  have hl := t1.len
  have HL := hid hl
  have T1 := hid t1
  have B1 := hid (B0.out.trans (hb1.mono (by simp)))
  have X1 := hid (X0.out.below hb1 (by simp))
  have hRB := X1.out.lt
  have s1 := B1.out.size
  obtain ⟨R, hR⟩ : ∃ R, w.heap.size = R := ⟨_, rfl⟩
  have HR := hid hR
  rw [hR] at X1 hRB ⊢
  clear hb1 t1 B0 X0 hR
  by_cases hk0 : k = 0
  · subst hk0
    go_wp2_with (go_at_call 11; refine (bad_calls 1 2 _).mono ?_; rintro e wq ⟨rfl, hbq⟩; have Xq := hid (X1.out.below hbq X1.out.lt); have Bq := hid (B1.out.trans (hbq.mono B1.out.size)); have x0 := Xq.out.cell0; have x1 := Xq.out.cell1; have x2 := Xq.out.cell2; have x3 := Xq.out.cell3; have g0 := Xq.out.fr 0; have g1 := Xq.out.fr 1; have g2 := Xq.out.fr 2; have g3 := Xq.out.fr 3; clear hbq)
    obtain ⟨y1, y2, y3, y4⟩ := ret_all4 Xq.out (.slice none 0 0) (.slice none 0 0) (.int .i64 1) (.int .i64 2)
    have r0 := y4.cell0
    have r1 := y4.cell1
    have r2 := y4.cell2
    have r3 := y4.cell3
    refine bodyPost_ret (v := .agg #[.slice none 0 0, .slice none 0 0, .int .i64 1, .int .i64 2]) (by simp [results, Try.results6, go_sem, r0, r1, r2, r3]) rfl ?_
    exact ⟨MfOut.bad (.inr (.inl ⟨rfl, rfl, 0, [], [], by omega, by rw [HL.out]; exact Mg.Run.zero _, by rw [HL.out]; rfl, rfl⟩)), below_all4 Bq.out (by have := HR.out; omega) _ _ _ _⟩
  have hk0' : ¬ (k : Int) = 0 := by omega
  have hk1 : (0 : Int) < k := by omega
  have hk2 : ((k : Int) == 0) = false := beq_eq_false_iff_ne.2 hk0'
  obtain ⟨bl, off, rfl, hbl, hc⟩ := T1.out.at' (by omega)
  have q0 : w1.cell? ⟨bl, off, none⟩ = some (.string (at_ (lns X) 0)) := hc 0 (by omega)
  have HC := hid hc
  clear hc
  obtain ⟨s0, hs0⟩ : ∃ s, at_ (lns X) 0 = s := ⟨_, rfl⟩
  rw [hs0] at q0
  have HS0 := hid hs0
  clear hs0
  by_cases hv : s0 = Mg.sVocab
  · have HV := hid hv
    rw [hv] at q0
    unfold Mg.sVocab at q0
    clear hv
    have U0 := hid (show Mg.Run (lns X) 1 1 [] [] from (Mg.Run.zero _).step HS0.out (.inl ⟨rfl, HV.out, rfl, rfl, rfl⟩))
    have Y0 := hid (Bx4.new w1 34 (.slice none 0 0) (.slice none 0 0) (.int .i64 0) (.int .i64 0))
    have D0 := hid ((Below.refl w1.heap.size w1).alloc (Nat.le_refl _) (.cells #[.slice none 0 0, .slice none 0 0, .int .i64 0, .int .i64 0] 34))
    obtain ⟨M, hM⟩ : ∃ M, w1.heap.size = M := ⟨_, rfl⟩
    rw [hM] at Y0 D0
    have HM := hid hM
    go_wp2_with fail
    clear hM
    go_loopg [5] (k - 1) (fun r iv wr => ∃ (i : Nat) (vr : Value) (rs : Mg.Rows), r = k - i ∧ 1 ≤ i ∧ i ≤ k ∧ iv = .int .i64 i ∧ Hid (Mg.Run (lns X) i 1 rs []) ∧ Hid (Bx4 wr M 34 vr (.slice none 0 0) (.int .i64 0) (.int .i64 0)) ∧ Hid (wr.ownsRow (M + 1) 50 2 vr rs.length (rv rs)) ∧ Hid (Below M w1 wr))
    case atStart => exact ⟨1, _, [], rfl, by omega, by omega, rfl, U0, Y0, hid (World.ownsRow_nil _ _ _ _), D0⟩
    case round =>
      obtain ⟨i, vr, rs, rfl, hi1, hik, rfl, HU, HY, HO, HB⟩ := hrel
      have hMM := HM.out
      have hYl := HY.out.lt
      have X2 := hid (X1.out.below HB.out (by omega))
      have B2 := hid (B1.out.trans (HB.out.mono (by omega)))
      have e2 : IntKind.i64.wrap ((i : Int) + 1) = i + 1 := i64_in (by omega) (by omega)
      have hlen := HU.out.len
      by_cases hlt : i < k
      · have k1 : (i : Int) < k := by omega
        have k0 : (0 : Int) ≤ i := by omega
        have k7 : ¬ (i : Int) = k := by omega
        have k8 : ((i : Int) == k) = false := beq_eq_false_iff_ne.2 k7
        obtain ⟨s, hs⟩ : ∃ s, at_ (lns X) i = s := ⟨_, rfl⟩
        have hss : s.size ≤ X.size := by rw [← hs]; exact Rk.lns_le
        have q : wr.cell? ⟨bl, off + i, none⟩ = some (.string s) := by
          rw [HB.out.cell (p := ⟨bl, off + i, none⟩) (show bl < M by omega), ← hs]; exact HC.out i hlt
        have HSS := hid hs
        clear hs
        by_cases hm : s = Mg.sMerges
        · have HMG := hid hm
          rw [hm] at q
          unfold Mg.sMerges at q
          have U1 := hid (HU.out.step HSS.out (.inr (.inl ⟨rfl, hm, rfl, rfl, rfl⟩)))
          clear hm
          go_wp2_with fail
          go_loopg [5] (k - (i + 1)) (fun r iv wr2 => ∃ (i2 : Nat) (vp : Value) (ps : Mg.Prs), r = k - i2 ∧ i2 ≤ k ∧ iv = .int .i64 i2 ∧ Hid (Mg.Run (lns X) i2 2 rs ps) ∧ Hid (Bx4 wr2 M 34 vr vp (.int .i64 0) (.int .i64 0)) ∧ Hid (wr2.ownsRow (M + 1) 50 2 vr rs.length (rv rs)) ∧ Hid (wr2.ownsRow (M + 1) 52 2 vp ps.length (pv ps)) ∧ Hid (Below M w1 wr2))
          case atStart => exact ⟨i + 1, _, [], by omega, by omega, by go_num, U1, HY, HO, hid (World.ownsRow_nil _ _ _ _), HB⟩
          case round =>
            obtain ⟨i2, vp, ps, rfl, hik2, rfl, HU2, HY2, HO2, HP2, HB2⟩ := hrel
            have hYl2 := HY2.out.lt
            have X3 := hid (X1.out.below HB2.out (by omega))
            have B3 := hid (B1.out.trans (HB2.out.mono (by omega)))
            have e3 : IntKind.i64.wrap ((i2 : Int) + 1) = i2 + 1 := i64_in (by omega) (by omega)
            have hlen2 := HU2.out.len
            clear X2 B2 HY HO HB q U0 U1 HU k0 k1 k7 k8 e2 hlen hss HSS hlt
            by_cases hlt2 : i2 < k
            · have k1 : (i2 : Int) < k := by omega
              have k0 : (0 : Int) ≤ i2 := by omega
              obtain ⟨s2, hs⟩ : ∃ s, at_ (lns X) i2 = s := ⟨_, rfl⟩
              have hss2 : s2.size ≤ X.size := by rw [← hs]; exact Rk.lns_le
              have q : wr.cell? ⟨bl, off + i2, none⟩ = some (.string s2) := by
                rw [HB2.out.cell (p := ⟨bl, off + i2, none⟩) (show bl < M by omega), ← hs]; exact HC.out i2 hlt2
              have HSS2 := hid hs
              clear hs
              go_wp2_with fail
              refine (two_pair s2 _ (by omega)).mono ?_
              rintro e w3 ⟨ho, hb3⟩
              have X4 := hid (X3.out.below hb3 X3.out.lt)
              have B4 := hid (B3.out.trans (hb3.mono B3.out.size))
              have Y4 := hid (HY2.out.below hb3 HY2.out.lt)
              have O4 := hid (own_below HO2.out hb3)
              have P4 := hid (own_below HP2.out hb3)
              have D4 := hid (HB2.out.trans (hb3.mono (Nat.le_of_lt hYl2)))
              have hs3 := hb3.size
              clear hb3 X3 B3 HY2 HO2 HP2 HB2
              rcases ho with ⟨⟨l2, g2⟩, hx, rfl⟩ | ⟨hno, u1, u2, rfl⟩
              · have HX := hid hx
                clear hx
                by_cases h64 : 64 < l2.size
                · have h64' : (64 : Int) < l2.size := by omega
                  go_wp2_with (go_at_call 11; refine (bad_calls ((i2 : Int) + 1) 7 _).mono ?_; rintro e wq ⟨rfl, hbq⟩; have Xq := hid (X4.out.below hbq X4.out.lt); have Bq := hid (B4.out.trans (hbq.mono B4.out.size)); have x0 := Xq.out.cell0; have x1 := Xq.out.cell1; have x2 := Xq.out.cell2; have x3 := Xq.out.cell3; have g0 := Xq.out.fr 0; have g1 := Xq.out.fr 1; have g2 := Xq.out.fr 2; have g3 := Xq.out.fr 3; clear hbq)
                  obtain ⟨y1, y2, y3, y4⟩ := ret_all4 Xq.out (.slice none 0 0) (.slice none 0 0) (.int .i64 ((i2 : Int) + 1)) (.int .i64 7)
                  have r0 := y4.cell0
                  have r1 := y4.cell1
                  have r2 := y4.cell2
                  have r3 := y4.cell3
                  refine bodyPost_ret (v := .agg #[.slice none 0 0, .slice none 0 0, .int .i64 ((i2 : Int) + 1), .int .i64 7]) (by simp [results, Try.results6, go_sem, r0, r1, r2, r3]) rfl ?_
                  exact ⟨MfOut.bad (.inr (.inr ⟨rfl, rfl, i2, 2, rs, ps, by omega, HU2.out, by rw [HSS2.out]; exact .inr (.inr (.inr (.inr ⟨rfl, ⟨_, HX.out, .inl h64⟩, rfl⟩))), rfl⟩)), below_all4 Bq.out (by have := HR.out; omega) _ _ _ _⟩
                by_cases h65 : 64 < g2.size
                · have h65' : (64 : Int) < g2.size := by omega
                  have h64' : ¬ (64 : Int) < l2.size := by omega
                  go_wp2_with (go_at_call 11; refine (bad_calls ((i2 : Int) + 1) 7 _).mono ?_; rintro e wq ⟨rfl, hbq⟩; have Xq := hid (X4.out.below hbq X4.out.lt); have Bq := hid (B4.out.trans (hbq.mono B4.out.size)); have x0 := Xq.out.cell0; have x1 := Xq.out.cell1; have x2 := Xq.out.cell2; have x3 := Xq.out.cell3; have g0 := Xq.out.fr 0; have g1 := Xq.out.fr 1; have g2 := Xq.out.fr 2; have g3 := Xq.out.fr 3; clear hbq)
                  obtain ⟨y1, y2, y3, y4⟩ := ret_all4 Xq.out (.slice none 0 0) (.slice none 0 0) (.int .i64 ((i2 : Int) + 1)) (.int .i64 7)
                  have r0 := y4.cell0
                  have r1 := y4.cell1
                  have r2 := y4.cell2
                  have r3 := y4.cell3
                  refine bodyPost_ret (v := .agg #[.slice none 0 0, .slice none 0 0, .int .i64 ((i2 : Int) + 1), .int .i64 7]) (by simp [results, Try.results6, go_sem, r0, r1, r2, r3]) rfl ?_
                  exact ⟨MfOut.bad (.inr (.inr ⟨rfl, rfl, i2, 2, rs, ps, by omega, HU2.out, by rw [HSS2.out]; exact .inr (.inr (.inr (.inr ⟨rfl, ⟨_, HX.out, .inr h65⟩, rfl⟩))), rfl⟩)), below_all4 Bq.out (by have := HR.out; omega) _ _ _ _⟩
                have h64' : ¬ (64 : Int) < l2.size := by omega
                have h65' : ¬ (64 : Int) < g2.size := by omega
                have k9 : ¬ (16384 : Int) ≤ ps.length := by omega
                obtain ⟨ar, cr, rfl, hrw⟩ := Pw.ofOwn P4.out
                have c0 := Y4.out.cell1
                have ap := own_apart O4.out P4.out (by decide)
                clear hrw
                go_wp2_with (at_builtin; refine wpList_append_src rfl _ _ 25 rfl (M + 1) 52 j0 (.agg #[.string ⟨#[]⟩, .string ⟨#[]⟩]) 2 32 Try.underlying25 gi gz0 gz1 gz2 rfl (by decide) (.slice ar ps.length cr) ps.length (pv ps) rfl (P4.out.alloc _) (some ⟨w3.heap.size, 0, none⟩) 1 1 [.string l2, .string g2] rfl (src_pair l2 g2 _) (by unfold maxLen; omega) (by omega) (by simp; omega) ?_)
                intro v5 w5 ho5 hg5 hob5
                have hs5 : w3.heap.size + 1 ≤ w5.heap.size := by have := hg5.size; simpa using this
                have hob : ∀ g, (Value.slice ar ps.length cr).ownBlock = some g → M + 1 ≤ g := fun g hg => (P4.out.lt g hg).1
                have Y5 := hid ((Y4.out.alloc _).kept hg5 (fun e => by have := hob M e.symm; omega))
                have D5 := hid ((D4.out.alloc (by omega) _).grown hg5 (by simp; omega) (fun j hj => by have := hob j hj; omega))
                have O5 := hid ((O4.out.alloc _).kept hg5 ap)
                rw [pv_snoc] at ho5
                obtain ⟨a5, q5, rfl, hr5⟩ := Pw.ofOwn ho5
                have c5 := Y5.out.cell1
                have f5 := Y5.out.fr 1
                have P6 := hid (own_set (j := 1) ho5 (own_block (B := M) ho5 (by omega)) (.slice a5 (ps.length + 1) q5))
                have O6 := hid (own_set (j := 1) O5.out (own_block (B := M) O5.out (by omega)) (.slice a5 (ps.length + 1) q5))
                have Y6 := hid (Y5.out.set1 (.slice a5 (ps.length + 1) q5))
                have D6 := hid (D5.out.setCell (p := ⟨M, 1, none⟩) (Nat.le_refl _) (.slice a5 (ps.length + 1) q5))
                clear ho5 hg5 hob5 hr5
                go_wp2_with fail
                go_roundg (k - (i2 + 1))
                case measure => omega
                case rel => exact ⟨i2 + 1, _, ps ++ [(l2, g2)], rfl, by omega, by go_num, hid (HU2.out.step HSS2.out (.inr (.inr (.inr ⟨rfl, _, HX.out, by show l2.size ≤ 64; omega, by show g2.size ≤ 64; omega, rfl, rfl, rfl⟩)))), Y6, O6, by rw [List.length_append]; exact P6, D6⟩
              · have HF := hid hno
                clear hno
                go_wp2_with (go_at_call 11; refine (bad_calls ((i2 : Int) + 1) 2 _).mono ?_; rintro e wq ⟨rfl, hbq⟩; have Xq := hid (X4.out.below hbq X4.out.lt); have Bq := hid (B4.out.trans (hbq.mono B4.out.size)); have x0 := Xq.out.cell0; have x1 := Xq.out.cell1; have x2 := Xq.out.cell2; have x3 := Xq.out.cell3; have g0 := Xq.out.fr 0; have g1 := Xq.out.fr 1; have g2 := Xq.out.fr 2; have g3 := Xq.out.fr 3; clear hbq)
                obtain ⟨y1, y2, y3, y4⟩ := ret_all4 Xq.out (.slice none 0 0) (.slice none 0 0) (.int .i64 ((i2 : Int) + 1)) (.int .i64 2)
                have r0 := y4.cell0
                have r1 := y4.cell1
                have r2 := y4.cell2
                have r3 := y4.cell3
                refine bodyPost_ret (v := .agg #[.slice none 0 0, .slice none 0 0, .int .i64 ((i2 : Int) + 1), .int .i64 2]) (by simp [results, Try.results6, go_sem, r0, r1, r2, r3]) rfl ?_
                exact ⟨MfOut.bad (.inr (.inr ⟨rfl, rfl, i2, 2, rs, ps, by omega, HU2.out, by rw [HSS2.out]; exact .inr (.inr (.inr (.inl ⟨rfl, HF.out, rfl⟩))), rfl⟩)), below_all4 Bq.out (by have := HR.out; omega) _ _ _ _⟩
            · obtain rfl : i2 = k := by omega
              have k1 : ¬ (i2 : Int) < i2 := by omega
              obtain ⟨ar, cr, rfl, hrw⟩ := Rw.ofOwn HO2.out
              obtain ⟨ap, cp, rfl, hpw⟩ := Pw.ofOwn HP2.out
              clear hrw hpw
              have hRM : R < M + 1 := by have := X1.out.lt; omega
              have OR := hid (Rw.ofOwn' (own_all4 HO2.out hRM (.slice ar rs.length cr) (.slice ap ps.length cp) (.int .i64 0) (.int .i64 0)))
              have OP := hid (Pw.ofOwn' (own_all4 HP2.out hRM (.slice ar rs.length cr) (.slice ap ps.length cp) (.int .i64 0) (.int .i64 0)))
              have m0 := HY2.out.cell0
              have m1 := HY2.out.cell1
              have m2 := HY2.out.cell2
              have m3 := HY2.out.cell3
              have x0 := X3.out.cell0
              have x1 := X3.out.cell1
              have x2 := X3.out.cell2
              have x3 := X3.out.cell3
              have g0 := X3.out.fr 0
              have g1 := X3.out.fr 1
              have g2 := X3.out.fr 2
              have g3 := X3.out.fr 3
              obtain ⟨y1, y2, y3, y4⟩ := ret_all4 X3.out (.slice ar rs.length cr) (.slice ap ps.length cp) (.int .i64 0) (.int .i64 0)
              have r0 := y4.cell0
              have r1 := y4.cell1
              have r2 := y4.cell2
              have r3 := y4.cell3
              clear y1 y2 y3 y4
              go_wp2_with fail
              refine bodyPost_ret (v := .agg #[.slice ar rs.length cr, .slice ap ps.length cp, .int .i64 0, .int .i64 0]) (by simp [results, Try.results6, go_sem, r0, r1, r2, r3]) rfl ?_
              exact ⟨⟨rs, ps, ar, rs.length, cr, ap, ps.length, cp, 0, 0, rfl, OR.out, OP.out, .inl ⟨by rw [HL.out]; exact HU2.out, rfl, rfl⟩⟩, below_all4 B3.out (by have := HR.out; omega) _ _ _ _⟩
        · have HN := hid hm
          have h1 := bne_text (l := [109, 101, 114, 103, 101, 115]) hm
          have h2 := ne_text (l := [109, 101, 114, 103, 101, 115]) hm
          clear hm
          go_wp2_with fail
          refine (two_row s _ (by omega)).mono ?_
          rintro e w3 ⟨ho, hb3⟩
          have X3 := hid (X2.out.below hb3 X2.out.lt)
          have B3 := hid (B2.out.trans (hb3.mono B2.out.size))
          have Y3 := hid (HY.out.below hb3 HY.out.lt)
          have O3 := hid (own_below HO.out hb3)
          have D3 := hid (HB.out.trans (hb3.mono (Nat.le_of_lt hYl)))
          have hs3 := hb3.size
          clear hb3 X2 B2 HY HO HB
          rcases ho with ⟨t, h2w, hR', rfl⟩ | ⟨hno, u, hu, rfl⟩
          · have H2W := hid h2w
            have HRD := hid hR'
            clear h2w hR'
            go_wp2_with fail
            refine (rnumber_calls (Rk.w1 s) (Rk.w1 s).size (bytesF (Rk.w1 s)) _ (by have : (Rk.w1 s).size ≤ s.size := Rk.wds_le; omega) (St.any _)).mono ?_
            rintro e w4 ⟨ho, hw4⟩
            subst hw4
            rcases ho with ⟨hN, rfl⟩ | ⟨hN, rfl⟩
            · have HROW := hid (show Mg.RowIs s (t, Mg.num (Rk.w1 s)) from ⟨H2W.out, HRD.out, hN, rfl⟩)
              have hpos : 0 ≤ Mg.num (Rk.w1 s) := (Ln.vF_bd hN.2.2.2).1
              have hneg : ¬ Mg.num (Rk.w1 s) < 0 := by omega
              rw [show Ln.vF (bytesF (Rk.w1 s)) (Rk.w1 s).size = Mg.num (Rk.w1 s) from rfl]
              clear hN
              by_cases h64 : 64 < t.size
              · have h64' : (64 : Int) < t.size := by omega
                go_wp2_with (go_at_call 11; refine (bad_calls ((i : Int) + 1) 7 _).mono ?_; rintro e wq ⟨rfl, hbq⟩; have Xq := hid (X3.out.below hbq X3.out.lt); have Bq := hid (B3.out.trans (hbq.mono B3.out.size)); have x0 := Xq.out.cell0; have x1 := Xq.out.cell1; have x2 := Xq.out.cell2; have x3 := Xq.out.cell3; have g0 := Xq.out.fr 0; have g1 := Xq.out.fr 1; have g2 := Xq.out.fr 2; have g3 := Xq.out.fr 3; clear hbq)
                obtain ⟨y1, y2, y3, y4⟩ := ret_all4 Xq.out (.slice none 0 0) (.slice none 0 0) (.int .i64 ((i : Int) + 1)) (.int .i64 7)
                have r0 := y4.cell0
                have r1 := y4.cell1
                have r2 := y4.cell2
                have r3 := y4.cell3
                refine bodyPost_ret (v := .agg #[.slice none 0 0, .slice none 0 0, .int .i64 ((i : Int) + 1), .int .i64 7]) (by simp [results, Try.results6, go_sem, r0, r1, r2, r3]) rfl ?_
                exact ⟨MfOut.bad (.inr (.inr ⟨rfl, rfl, i, 1, rs, [], by omega, HU.out, by rw [HSS.out]; exact .inr (.inr (.inl ⟨rfl, HN.out, ⟨_, HROW.out, h64⟩, rfl⟩)), rfl⟩)), below_all4 Bq.out (by have := HR.out; omega) _ _ _ _⟩
              · have h64' : ¬ (64 : Int) < t.size := by omega
                have k9 : ¬ (4096 : Int) ≤ rs.length := by omega
                obtain ⟨ar, cr, rfl, hrw⟩ := Rw.ofOwn O3.out
                have c0 := Y3.out.cell0
                clear hrw
                go_wp2_with (at_builtin; refine wpList_append_src rfl _ _ 24 rfl (M + 1) 50 i0 (.agg #[.string ⟨#[]⟩, .int .i64 0]) 2 24 Try.underlying24 hi hz0 hz1 hz2 rfl (by decide) (.slice ar rs.length cr) rs.length (rv rs) rfl (O3.out.alloc _) (some ⟨w4.heap.size, 0, none⟩) 1 1 [.string t, .int .i64 (Mg.num (Rk.w1 s))] rfl (src_row t (Mg.num (Rk.w1 s)) _) (by unfold maxLen; omega) (by omega) (by simp; omega) ?_)
                intro v5 w5 ho5 hg5 hob5
                have hs5 : w4.heap.size + 1 ≤ w5.heap.size := by have := hg5.size; simpa using this
                have hob : ∀ g, (Value.slice ar rs.length cr).ownBlock = some g → M + 1 ≤ g := fun g hg => (O3.out.lt g hg).1
                have Y5 := hid ((Y3.out.alloc _).kept hg5 (fun e => by have := hob M e.symm; omega))
                have D5 := hid ((D3.out.alloc (by omega) _).grown hg5 (by simp; omega) (fun j hj => by have := hob j hj; omega))
                rw [rv_snoc] at ho5
                obtain ⟨a5, q5, rfl, hr5⟩ := Rw.ofOwn ho5
                have c5 := Y5.out.cell0
                have f5 := Y5.out.fr 0
                have O6 := hid (own_set (j := 0) ho5 (own_block (B := M) ho5 (by omega)) (.slice a5 (rs.length + 1) q5))
                have Y6 := hid (Y5.out.set0 (.slice a5 (rs.length + 1) q5))
                have D6 := hid (D5.out.setCell (p := ⟨M, 0, none⟩) (Nat.le_refl _) (.slice a5 (rs.length + 1) q5))
                clear ho5 hg5 hob5 hr5
                go_wp2_with fail
                go_roundg (k - (i + 1))
                case measure => omega
                case rel => exact ⟨i + 1, _, rs ++ [(t, Mg.num (Rk.w1 s))], rfl, by omega, by omega, by go_num, hid (HU.out.step HSS.out (.inr (.inr (.inl ⟨rfl, HN.out, _, HROW.out, by show t.size ≤ 64; omega, rfl, rfl, rfl⟩)))), Y6, by rw [List.length_append]; exact O6, D6⟩
            · have HF := hid (show ∀ x, ¬ Mg.RowIs s x from fun x h => hN h.2.2.1)
              clear hN
              go_wp2_with (go_at_call 11; refine (bad_calls ((i : Int) + 1) 2 _).mono ?_; rintro e wq ⟨rfl, hbq⟩; have Xq := hid (X3.out.below hbq X3.out.lt); have Bq := hid (B3.out.trans (hbq.mono B3.out.size)); have x0 := Xq.out.cell0; have x1 := Xq.out.cell1; have x2 := Xq.out.cell2; have x3 := Xq.out.cell3; have g0 := Xq.out.fr 0; have g1 := Xq.out.fr 1; have g2 := Xq.out.fr 2; have g3 := Xq.out.fr 3; clear hbq)
              obtain ⟨y1, y2, y3, y4⟩ := ret_all4 Xq.out (.slice none 0 0) (.slice none 0 0) (.int .i64 ((i : Int) + 1)) (.int .i64 2)
              have r0 := y4.cell0
              have r1 := y4.cell1
              have r2 := y4.cell2
              have r3 := y4.cell3
              refine bodyPost_ret (v := .agg #[.slice none 0 0, .slice none 0 0, .int .i64 ((i : Int) + 1), .int .i64 2]) (by simp [results, Try.results6, go_sem, r0, r1, r2, r3]) rfl ?_
              exact ⟨MfOut.bad (.inr (.inr ⟨rfl, rfl, i, 1, rs, [], by omega, HU.out, by rw [HSS.out]; exact .inr (.inl ⟨rfl, HN.out, HF.out, rfl⟩), rfl⟩)), below_all4 Bq.out (by have := HR.out; omega) _ _ _ _⟩
          · have HF := hid hno
            clear hno
            go_wp2_with fail
            refine (rnumber_calls u u.size (bytesF u) _ (by omega) (St.any _)).mono ?_
            rintro e w4 ⟨ho, hw4⟩
            subst hw4
            rcases ho with ⟨hN, rfl⟩ | ⟨hN, rfl⟩
            · clear hN
              go_wp2_with (go_at_call 11; refine (bad_calls ((i : Int) + 1) 2 _).mono ?_; rintro e wq ⟨rfl, hbq⟩; have Xq := hid (X3.out.below hbq X3.out.lt); have Bq := hid (B3.out.trans (hbq.mono B3.out.size)); have x0 := Xq.out.cell0; have x1 := Xq.out.cell1; have x2 := Xq.out.cell2; have x3 := Xq.out.cell3; have g0 := Xq.out.fr 0; have g1 := Xq.out.fr 1; have g2 := Xq.out.fr 2; have g3 := Xq.out.fr 3; clear hbq)
              obtain ⟨y1, y2, y3, y4⟩ := ret_all4 Xq.out (.slice none 0 0) (.slice none 0 0) (.int .i64 ((i : Int) + 1)) (.int .i64 2)
              have r0 := y4.cell0
              have r1 := y4.cell1
              have r2 := y4.cell2
              have r3 := y4.cell3
              refine bodyPost_ret (v := .agg #[.slice none 0 0, .slice none 0 0, .int .i64 ((i : Int) + 1), .int .i64 2]) (by simp [results, Try.results6, go_sem, r0, r1, r2, r3]) rfl ?_
              exact ⟨MfOut.bad (.inr (.inr ⟨rfl, rfl, i, 1, rs, [], by omega, HU.out, by rw [HSS.out]; exact .inr (.inl ⟨rfl, HN.out, HF.out, rfl⟩), rfl⟩)), below_all4 Bq.out (by have := HR.out; omega) _ _ _ _⟩
            · clear hN
              go_wp2_with (go_at_call 11; refine (bad_calls ((i : Int) + 1) 2 _).mono ?_; rintro e wq ⟨rfl, hbq⟩; have Xq := hid (X3.out.below hbq X3.out.lt); have Bq := hid (B3.out.trans (hbq.mono B3.out.size)); have x0 := Xq.out.cell0; have x1 := Xq.out.cell1; have x2 := Xq.out.cell2; have x3 := Xq.out.cell3; have g0 := Xq.out.fr 0; have g1 := Xq.out.fr 1; have g2 := Xq.out.fr 2; have g3 := Xq.out.fr 3; clear hbq)
              obtain ⟨y1, y2, y3, y4⟩ := ret_all4 Xq.out (.slice none 0 0) (.slice none 0 0) (.int .i64 ((i : Int) + 1)) (.int .i64 2)
              have r0 := y4.cell0
              have r1 := y4.cell1
              have r2 := y4.cell2
              have r3 := y4.cell3
              refine bodyPost_ret (v := .agg #[.slice none 0 0, .slice none 0 0, .int .i64 ((i : Int) + 1), .int .i64 2]) (by simp [results, Try.results6, go_sem, r0, r1, r2, r3]) rfl ?_
              exact ⟨MfOut.bad (.inr (.inr ⟨rfl, rfl, i, 1, rs, [], by omega, HU.out, by rw [HSS.out]; exact .inr (.inl ⟨rfl, HN.out, HF.out, rfl⟩), rfl⟩)), below_all4 Bq.out (by have := HR.out; omega) _ _ _ _⟩
      · obtain rfl : i = k := by omega
        have k1 : ¬ (i : Int) < i := by omega
        go_wp2_with (go_at_call 11; refine (bad_calls ((i : Int) + 1) 2 _).mono ?_; rintro e wq ⟨rfl, hbq⟩; have Xq := hid (X2.out.below hbq X2.out.lt); have Bq := hid (B2.out.trans (hbq.mono B2.out.size)); have x0 := Xq.out.cell0; have x1 := Xq.out.cell1; have x2 := Xq.out.cell2; have x3 := Xq.out.cell3; have g0 := Xq.out.fr 0; have g1 := Xq.out.fr 1; have g2 := Xq.out.fr 2; have g3 := Xq.out.fr 3; clear hbq)
        obtain ⟨y1, y2, y3, y4⟩ := ret_all4 Xq.out (.slice none 0 0) (.slice none 0 0) (.int .i64 ((i : Int) + 1)) (.int .i64 2)
        have r0 := y4.cell0
        have r1 := y4.cell1
        have r2 := y4.cell2
        have r3 := y4.cell3
        refine bodyPost_ret (v := .agg #[.slice none 0 0, .slice none 0 0, .int .i64 ((i : Int) + 1), .int .i64 2]) (by simp [results, Try.results6, go_sem, r0, r1, r2, r3]) rfl ?_
        exact ⟨MfOut.bad (.inr (.inl ⟨rfl, rfl, 1, rs, [], by omega, by rw [HL.out]; exact HU.out, by rw [HL.out], rfl⟩)), below_all4 Bq.out (by have := HR.out; omega) _ _ _ _⟩
  · have HV := hid hv
    have h1 := bne_text (l := [118, 111, 99, 97, 98]) hv
    have h2 := ne_text (l := [118, 111, 99, 97, 98]) hv
    clear hv
    go_wp2_with (go_at_call 11; refine (bad_calls 1 2 _).mono ?_; rintro e wq ⟨rfl, hbq⟩; have Xq := hid (X1.out.below hbq X1.out.lt); have Bq := hid (B1.out.trans (hbq.mono B1.out.size)); have x0 := Xq.out.cell0; have x1 := Xq.out.cell1; have x2 := Xq.out.cell2; have x3 := Xq.out.cell3; have g0 := Xq.out.fr 0; have g1 := Xq.out.fr 1; have g2 := Xq.out.fr 2; have g3 := Xq.out.fr 3; clear hbq)
    obtain ⟨y1, y2, y3, y4⟩ := ret_all4 Xq.out (.slice none 0 0) (.slice none 0 0) (.int .i64 1) (.int .i64 2)
    have r0 := y4.cell0
    have r1 := y4.cell1
    have r2 := y4.cell2
    have r3 := y4.cell3
    refine bodyPost_ret (v := .agg #[.slice none 0 0, .slice none 0 0, .int .i64 1, .int .i64 2]) (by simp [results, Try.results6, go_sem, r0, r1, r2, r3]) rfl ?_
    exact ⟨MfOut.bad (.inr (.inr ⟨rfl, rfl, 0, 0, [], [], by omega, Mg.Run.zero _, by rw [HS0.out]; exact .inl ⟨rfl, HV.out, rfl⟩, rfl⟩)), below_all4 Bq.out (by have := HR.out; omega) _ _ _ _⟩
end Go.Proofs.Ytecbmonbeogdjaa
