/-
  Walks of the reference's maySpecials, May.
-/
import Derived.Test.YtfgbpjajkmfkoaaVrW2
namespace Go.Proofs.Ytfgbpjajkmfkoaa
open Go.RowKit Go.Maps
set_option linter.unusedVariables false

set_option maxRecDepth 100000 in
set_option maxHeartbeats 6400000 in
theorem rmaySpecials_calls {w : World} {a am az : Option Addr} {n c nm cm ns cs : Nat} {ts : Vc.Toks} {sp : Vc.Sps} (V : Ts w a n c ts) (Q : Rw w az ns cs sp) (hz : ∀ i, i < sp.length → (tat sp i).size ≤ 1000000) :
    Calls Try.prog 28 #[.agg #[.slice a n c, .slice am nm cm, .slice az ns cs]] w fun e w' => Says e (Vc.MayS ts sp) ∧ Below w.heap.size w w' := by
  have hl := V.len
  have hls := Q.len
  have hlt0 : n ≤ 9223372036854775807 := by have := V.le; have := V.mx; unfold maxLen at this; omega
  have B0 := hid ((Below.refl w.heap.size w).alloc (Nat.le_refl _) (.cells #[.slice a n c, .slice am nm cm, .slice az ns cs] 26))
  have X0 := hid (Bx3.new w 26 (.slice a n c) (.slice am nm cm) (.slice az ns cs))
  have TW := hid V
  have QW := hid Q
  have HZ := hid hz
  clear V Q hz
  by_cases h0 : (16 : Int) < ns
  · have HN := hid (show ¬ Vc.MayS ts sp from fun h => by have := h.len; omega)
    go_enter Try.func28, Try.ntmps28
    go_wp2_with fail
    go_ret
    exact ⟨Says.no HN.out, B0.out⟩
  have hm : ns ≤ 16 := by omega
  go_enter Try.func28, Try.ntmps28
  go_wp2_with fail
  go_loopg [13] ns (fun r iv wr => ∃ j : Nat, r = ns - j ∧ iv = .int .i64 (j : Int) ∧ j ≤ ns ∧ Hid (∀ i, i < j → Vc.NameOk (tat sp i) ∧ Vc.Emp ts (kat sp i)) ∧ Hid (∀ i k, i < k → k < j → Vc.NLt (tat sp i) (tat sp k) ∧ kat sp i ≠ kat sp k) ∧ Hid (Bx3 wr w.heap.size 26 (.slice a n c) (.slice am nm cm) (.slice az ns cs)) ∧ Hid (Below w.heap.size w wr))
  case atStart => exact ⟨0, rfl, rfl, by omega, hid (fun i hi => by omega), hid (fun i k _ hk => by omega), X0, B0⟩
  case round =>
    obtain ⟨j, rfl, rfl, hj, HA, HP, HX, HB⟩ := hrel
    by_cases hlt : j < ns
    · have k1 : (j : Int) < ns := by omega
      have k0 : (0 : Int) ≤ j := by omega
      have e2 : IntKind.i64.wrap ((j : Int) + 1) = j + 1 := i64_in (by omega) (by omega)
      have xx2 := HX.out.cell2
      obtain ⟨b, off, rfl, hbl, hc⟩ := (QW.out.below HB.out).at' (by omega)
      obtain ⟨p0, p1⟩ := hc j hlt
      have hsz := HZ.out j (by omega)
      obtain ⟨s, hs⟩ : ∃ x, tat sp j = x := ⟨_, rfl⟩
      obtain ⟨x, hx⟩ : ∃ x, kat sp j = x := ⟨_, rfl⟩
      rw [hs] at p0 hsz
      rw [hx] at p1
      have HS := hid hs
      have HK := hid hx
      obtain ⟨K, hK⟩ : ∃ K, wr.heap.size = K := ⟨_, rfl⟩
      have X3 := hid (HX.out.alloc (.cells #[.string s, .int .i64 x] 55))
      have Y3 := hid (Bx2.new wr 55 (.string s) (.int .i64 x))
      have B3 := hid (HB.out.alloc HB.out.size (.cells #[.string s, .int .i64 x] 55))
      rw [hK] at Y3
      have z0 := X3.out.cell0
      have z2 := X3.out.cell2
      have y0 := Y3.out.cell0
      have y1 := Y3.out.cell1
      have T3 := hid (TW.out.below B3.out)
      clear hc hs hx
      go_wp2_with fail
      refine (rmayName_calls s _ hsz).mono ?_
      rintro e w4 ⟨⟨t, rfl, ht⟩, rfl⟩
      have HO := hid ht
      clear ht
      cases t
      · have HN := hid (show ¬ Vc.MayS ts sp from fun h => by
          have := (h.ok j (by omega)).1
          rw [HS.out] at this
          exact absurd (HO.out.2 this) (by decide))
        go_wp2_with fail
        go_ret
        exact ⟨Says.no HN.out, B3.out⟩
      have HOk := hid (HO.out.1 rfl)
      clear HO
      by_cases o0 : x < 0
      · have HN := hid (show ¬ Vc.MayS ts sp from fun h => by
          have := (h.ok j (by omega)).2.1
          rw [HK.out] at this
          omega)
        go_wp2_with fail
        go_ret
        exact ⟨Says.no HN.out, B3.out⟩
      have do0 : decide (x < (0 : Int)) = false := decide_eq_false o0
      by_cases o1 : (n : Int) ≤ x
      · have HN := hid (show ¬ Vc.MayS ts sp from fun h => by
          have := (h.ok j (by omega)).2.2.1
          rw [HK.out] at this
          omega)
        go_wp2_with fail
        go_ret
        exact ⟨Says.no HN.out, B3.out⟩
      have do1 : decide ((n : Int) ≤ x) = false := decide_eq_false o1
      obtain ⟨q, hq⟩ : ∃ q : Nat, x = q := ⟨x.toNat, by omega⟩
      subst hq
      have hqn : q < n := by omega
      have hq0 : (0 : Int) ≤ q := by omega
      have hq1 : (q : Int) < n := by omega
      have hq2 : ¬ n ≤ q := by omega
      obtain ⟨bt, offt, rfl, hblt, hct⟩ := T3.out.at' (by omega)
      have t0 := hct q hqn
      obtain ⟨u, hu⟩ : ∃ u, at_ ts q = u := ⟨_, rfl⟩
      rw [hu] at t0
      have HU := hid hu
      clear hct hu
      by_cases hz : u.size = 0
      · have e1 := (ba_empty hz).1
        have e3 := (ba_empty hz).2
        have HEm := hid (show Vc.Emp ts (q : Int) from ⟨by omega, by omega, by rw [Int.toNat_natCast, HU.out]; exact hz⟩)
        clear hz
        go_wp2_with fail
        go_loopg [5] j (fun r iv wr2 => ∃ k : Nat, r = j - k ∧ iv = .int .i64 (k : Int) ∧ k ≤ j ∧ Hid (∀ i, i < k → Vc.NLt (tat sp i) (tat sp j) ∧ kat sp i ≠ kat sp j) ∧ Hid (Bx3 wr2 w.heap.size 26 (.slice (some ⟨bt, offt, none⟩) n c) (.slice am nm cm) (.slice (some ⟨b, off, none⟩) ns cs)) ∧ Hid (Bx2 wr2 K 55 (.string s) (.int .i64 (q : Int))) ∧ Hid (Below w.heap.size w wr2))
        case atStart => exact ⟨0, rfl, rfl, by omega, hid (fun i hi => by omega), X3, Y3, B3⟩
        case round =>
          obtain ⟨k, rfl, rfl, hk, HC, HX2, HY2, HB2⟩ := hrel
          by_cases hlt2 : k < j
          · have m1 : (k : Int) < j := by omega
            have m0 : (0 : Int) ≤ k := by omega
            have m3 : (k : Int) < ns := by omega
            have m2 : IntKind.i64.wrap ((k : Int) + 1) = k + 1 := i64_in (by omega) (by omega)
            obtain ⟨bb, ob, heq, _, hc2⟩ := (QW.out.below HB2.out).at' (by omega)
            cases heq
            obtain ⟨p0, p1⟩ := hc2 k (by omega)
            obtain ⟨s2, hs2⟩ : ∃ x, tat sp k = x := ⟨_, rfl⟩
            obtain ⟨x2, hx2⟩ : ∃ x, kat sp k = x := ⟨_, rfl⟩
            rw [hs2] at p0
            rw [hx2] at p1
            have HS2 := hid hs2
            have HK2 := hid hx2
            clear hc2 hs2 hx2
            have xx2 := HX2.out.cell2
            have y0 := HY2.out.cell0
            have y1 := HY2.out.cell1
            have X4 := hid (fun d => HX2.out.below (below_drewN (Below.refl _ _) d) HX2.out.lt)
            have Y4 := hid (fun d => HY2.out.below (below_drewN (Below.refl _ _) d) HY2.out.lt)
            have B4 := hid (fun d => below_drewN HB2.out d)
            by_cases hlt3 : Op.bytesLess s2.toList s.toList = true
            · have HL := hid ((bl_iff s2 s).1 hlt3)
              by_cases hx3 : x2 = (q : Int)
              · have HN := hid (show ¬ Vc.MayS ts sp from fun h => by
                  have := (h.both k j hlt2 (by omega)).2
                  rw [HK2.out, HK.out] at this
                  exact this hx3)
                subst hx3
                go_wp2_with fail
                go_quiet (fail)
                go_wp2_with fail
                go_ret
                exact ⟨Says.no HN.out, B4.out nq⟩
              · have d3 : (x2 == (q : Int)) = false := by simpa using hx3
                have HR := hid (show ∀ i, i < k + 1 → Vc.NLt (tat sp i) (tat sp j) ∧ kat sp i ≠ kat sp j from fun i hi => by
                  by_cases h : i < k
                  · exact HC.out i h
                  · obtain rfl : i = k := by omega
                    rw [HS2.out, HS.out, HK2.out, HK.out]
                    exact ⟨HL.out, hx3⟩)
                go_wp2_with fail
                go_quiet (fail)
                go_wp2_with fail
                go_roundg (j - (k + 1))
                case measure => omega
                case rel => exact ⟨k + 1, rfl, by go_num, by omega, HR, hid (X4.out nq), hid (Y4.out nq), hid (B4.out nq)⟩
            · have hl3 : Op.bytesLess s2.toList s.toList = false := by simpa using hlt3
              have HN := hid (show ¬ Vc.MayS ts sp from fun h => by
                have := (h.both k j hlt2 (by omega)).1
                rw [HS2.out, HS.out] at this
                exact hlt3 ((bl_iff s2 s).2 this))
              clear hlt3
              go_wp2_with fail
              go_quiet (fail)
              go_wp2_with fail
              go_ret
              exact ⟨Says.no HN.out, B4.out nq⟩
          · obtain rfl : k = j := by omega
            have m1 : ¬ (k : Int) < k := by omega
            go_wp2_with fail
            go_roundg (ns - (k + 1))
            case measure => omega
            case rel => exact ⟨k + 1, rfl, by go_num, by omega, hid (fun i hi => by
              by_cases h : i < k
              · exact HA.out i h
              · obtain rfl : i = k := by omega
                rw [HS.out, HK.out]; exact ⟨HOk.out, HEm.out⟩), hid (fun i q hiq hq => by
              by_cases h : q < k
              · exact HP.out i q hiq h
              · obtain rfl : q = k := by omega
                exact HC.out i hiq), HX2, HB2⟩
      · have e1 := (ba_full hz).1
        have e3 := (ba_full hz).2
        have HN := hid (show ¬ Vc.MayS ts sp from fun h => by
          have := (h.ok j (by omega)).2.2.2
          rw [HK.out, Int.toNat_natCast, HU.out] at this
          exact hz this)
        clear hz
        go_wp2_with fail
        go_ret
        exact ⟨Says.no HN.out, B3.out⟩
    · have k1 : ¬ ((j : Int) < ns) := by omega
      have HN := hid (show Vc.MayS ts sp from ⟨by omega, fun i hi => HA.out i (by omega), fun i k hik hk => HP.out i k hik (by omega)⟩)
      go_wp2_with fail
      go_ret
      exact ⟨Says.yes HN.out, HB.out⟩

set_option maxRecDepth 100000 in
set_option maxHeartbeats 3200000 in
theorem rmay_calls {w : World} {a am az : Option Addr} {n c nm cm ns cs : Nat} {ts : Vc.Toks} {ms : List Mg4} {sp : Vc.Sps} (V : Vo w a n c am nm cm az ns cs ts ms sp) (hz : ∀ i, i < sp.length → (tat sp i).size ≤ 1000000) :
    Calls Try.prog 11 #[.agg #[.slice a n c, .slice am nm cm, .slice az ns cs]] w fun e w' => Says e (Vc.May ts ms sp) ∧ Below w.heap.size w w' := by
  have hl := V.T.len
  have hlm := V.M.len
  have B0 := hid ((Below.refl w.heap.size w).alloc (Nat.le_refl _) (.cells #[.slice a n c, .slice am nm cm, .slice az ns cs] 26))
  have X0 := hid (Bx3.new w 26 (.slice a n c) (.slice am nm cm) (.slice az ns cs))
  have V0 := hid (V.below B0.out)
  have HZ := hid hz
  clear V hz
  go_enter Try.func11, Try.ntmps11
  go_wp2_with fail
  refine (rmayTokens_calls V0.out.T).mono ?_
  rintro e w1 ⟨⟨t, rfl, ht⟩, b1⟩
  have HT := hid ht
  have X1 := hid (X0.out.below b1 X0.out.lt)
  have V1 := hid (V0.out.below b1)
  have B1 := hid (B0.out.trans (b1.mono B0.out.size))
  clear ht b1 X0 V0 B0
  cases t
  · have HN := hid (show ¬ Vc.May ts ms sp from fun h => absurd (HT.out.2 h.T) (by decide))
    go_wp2_with fail
    go_ret
    exact ⟨Says.no HN.out, B1.out⟩
  have H1 := hid (HT.out.1 rfl)
  have c0 := X1.out.cell0
  have c1 := X1.out.cell1
  have c2 := X1.out.cell2
  go_wp2_with fail
  refine (rmayMerges_calls V1.out.T V1.out.M (fun i hi => H1.out.sz i (by omega))).mono ?_
  rintro e w2 ⟨⟨t, rfl, ht⟩, b1⟩
  have HU := hid ht
  have X2 := hid (X1.out.below b1 X1.out.lt)
  have V2 := hid (V1.out.below b1)
  have B2 := hid (B1.out.trans (b1.mono B1.out.size))
  clear ht b1 X1 V1 B1 c0 c1 c2 HT
  cases t
  · have HN := hid (show ¬ Vc.May ts ms sp from fun h => absurd (HU.out.2 h.M) (by decide))
    go_wp2_with fail
    go_ret
    exact ⟨Says.no HN.out, B2.out⟩
  have H2 := hid (HU.out.1 rfl)
  have c0 := X2.out.cell0
  have c1 := X2.out.cell1
  have c2 := X2.out.cell2
  go_wp2_with fail
  refine (rmayMade_calls V2.out.T V2.out.M (by have := H1.out.len; omega) (by have := H2.out.len; omega)).mono ?_
  rintro e w3 ⟨⟨t, rfl, ht⟩, b1⟩
  have HV := hid ht
  have X3 := hid (X2.out.below b1 X2.out.lt)
  have V3 := hid (V2.out.below b1)
  have B3 := hid (B2.out.trans (b1.mono B2.out.size))
  clear ht b1 X2 V2 B2 c0 c1 c2 HU
  cases t
  · have HN := hid (show ¬ Vc.May ts ms sp from fun h => absurd (HV.out.2 h.O) (by decide))
    go_wp2_with fail
    go_ret
    exact ⟨Says.no HN.out, B3.out⟩
  have H3 := hid (HV.out.1 rfl)
  have c0 := X3.out.cell0
  have c1 := X3.out.cell1
  have c2 := X3.out.cell2
  go_wp2_with fail
  refine (rmaySpecials_calls V3.out.T V3.out.S HZ.out).mono ?_
  rintro e w4 ⟨⟨t, rfl, ht⟩, b1⟩
  have HS := hid ht
  have B4 := hid (B3.out.trans (b1.mono B3.out.size))
  clear ht b1 X3 V3 B3 c0 c1 c2 HV
  cases t
  · have HN := hid (show ¬ Vc.May ts ms sp from fun h => absurd (HS.out.2 h.S) (by decide))
    go_wp2_with fail
    go_ret
    exact ⟨Says.no HN.out, B4.out⟩
  · have HN := hid (show Vc.May ts ms sp from ⟨H1.out, H2.out, H3.out, HS.out.1 rfl⟩)
    go_wp2_with fail
    go_ret
    exact ⟨Says.yes HN.out, B4.out⟩
end Go.Proofs.Ytfgbpjajkmfkoaa
