/-
  The walk of the law EncodeCuts.
-/
import Derived.Test.YtcjakjmhghoilaaEnFd
import Derived.Test.YtcjakjmhghoilaaEnL
import Derived.Test.YtcjakjmhghoilaaLotG
import Derived.Deep.RegionHeld3
namespace Go.Proofs.Ytcjakjmhghoilaa
open Go.RowKit Go.Maps
set_option linter.unusedVariables false
open Pr (it)
/-- What Text answers of tokens. -/
theorem text_yes {w : World} {a am az ar : Option Addr} {n c nm cm ns cs k d : Nat} {ts : Vc.Toks} {ms : List Mg4} {sp : Vc.Sps} {xs : Pr.Row} (V : Vo w a n c am nm cm az ns cs ts ms sp) (R : Ir w ar k d xs) (hz : ∀ i, i < n → (at_ ts i).size ≤ 1000000) (hk : k ≤ 1000000) (hT : Pr.Toks ts xs) :
    Calls Try.prog 20 #[.agg #[.slice a n c, .slice am nm cm, .slice az ns cs], .slice ar k d] w fun e w' => (∃ s, e = .returned (.tuple #[.string s, .bool true]) ∧ by_ s = Pr.cat ts xs) ∧ Below w.heap.size w w' :=
  (text_calls V R hz hk).mono fun e w' h => by
    rcases h.1 with ⟨_, h1⟩ | ⟨hno, _⟩
    · exact ⟨h1, h.2⟩
    · exact absurd hT hno
theorem keep_cells {w : World} {k : Nat} {x y z : Value} (X : Bx3 w k 26 x y z) {w' : World} (hb : Below w.heap.size w w') : w'.cell? ⟨k, 0, none⟩ = some x ∧ w'.cell? ⟨k, 1, none⟩ = some y ∧ w'.cell? ⟨k, 2, none⟩ = some z := by
  have X' := X.below hb X.lt
  exact ⟨X'.cell0, X'.cell1, X'.cell2⟩
set_option maxRecDepth 100000 in
set_option maxHeartbeats 12800000 in
theorem encodeCuts_calls {w : World} {a am az ba : Option Addr} {n c nm cm ns cs bn bc : Nat} {f : Nat → Int} {ts : Vc.Toks} {ms : List Mg4} {sp : Vc.Sps} (V : Vo w a n c am nm cm az ns cs ts ms sp) (S : Sl w ba bn bc f) {at2 : Int} (hat : 0 ≤ at2 ∧ at2 ≤ 255) :
    Calls Try.prog 6 #[.agg #[.slice a n c, .slice am nm cm, .slice az ns cs], .slice ba bn bc, .int .u8 at2] w fun e w' => e = .returned (.bool true) ∧ Below w.heap.size w w' := by
  have hl := V.T.len
  have hlm := V.M.len
  have B0 := hid ((Below.refl w.heap.size w).alloc (Nat.le_refl _) (.cells #[.slice a n c, .slice am nm cm, .slice az ns cs] 26))
  have X0 := hid (Bx3.new w 26 (.slice a n c) (.slice am nm cm) (.slice az ns cs))
  have V0 := hid (V.below B0.out)
  have S0 := hid (S.below B0.out)
  clear V S
  have x0 := X0.out.cell0
  have x1 := X0.out.cell1
  have x2 := X0.out.cell2
  go_enter Try.func6, Try.ntmps6
  go_wp2_with fail
  refine (rgreat_calls V0.out).mono ?_
  rintro e w1 ⟨⟨g, rfl, hg⟩, b1⟩
  have X1 := hid (X0.out.below b1 X0.out.lt)
  have V1 := hid (V0.out.below b1)
  have S1 := hid (S0.out.below b1)
  have B1 := hid (B0.out.trans (b1.mono B0.out.size))
  have HG := hid hg
  clear hg b1 X0 V0 B0 S0 x0 x1 x2
  cases g
  rotate_left
  · skip
    go_wp2_with fail
    refine (efixed_calls _).mono ?_
    rintro e wf ⟨rfl, bf⟩
    have BF := hid (B1.out.trans (bf.mono B1.out.size))
    clear bf
    go_wp2_with fail
    go_ret
    exact ⟨rfl, BF.out⟩
  have HSm := hid (show Vc.Small ts ms sp from Classical.byContradiction fun h => absurd (HG.out.2 h) (by decide))
  have hnm : nm ≤ 1000000 := by have := HSm.out.m; omega
  clear HG
  have x0 := X1.out.cell0
  have x1 := X1.out.cell1
  have x2 := X1.out.cell2
  by_cases hbig : 200 < bn
  · have k1 : ((200 : Int) < (bn : Int)) := by omega
    go_wp2_with fail
    refine (efixed_calls _).mono ?_
    rintro e wf ⟨rfl, bf⟩
    have BF := hid (B1.out.trans (bf.mono B1.out.size))
    clear bf
    go_wp2_with fail
    go_ret
    exact ⟨rfl, BF.out⟩
  have k1 : ¬ ((200 : Int) < (bn : Int)) := by omega
  go_wp2_with fail
  refine (rmay_calls V1.out (fun i hi => Nat.le_trans (HSm.out.sz i hi) (by decide))).mono ?_
  rintro e w2 ⟨⟨g, rfl, hg⟩, b2⟩
  have X2 := hid (X1.out.below b2 X1.out.lt)
  have V2 := hid (V1.out.below b2)
  have S2 := hid (S1.out.below b2)
  have B2 := hid (B1.out.trans (b2.mono B1.out.size))
  have HG := hid hg
  clear hg b2 X1 V1 B1 S1 x0 x1 x2
  cases g
  · skip
    go_wp2_with fail
    refine (efixed_calls _).mono ?_
    rintro e wf ⟨rfl, bf⟩
    have BF := hid (B2.out.trans (bf.mono B2.out.size))
    clear bf
    go_wp2_with fail
    go_ret
    exact ⟨rfl, BF.out⟩
  have HM := hid (HG.out.1 rfl)
  clear HG
  have x0 := X2.out.cell0
  have x1 := X2.out.cell1
  have x2 := X2.out.cell2
  go_wp2_with fail
  refine (enew_calls V2.out (fun i hi => Nat.le_trans (HSm.out.tz i (by omega)) (by decide))).mono ?_
  rintro e w3 ⟨E3, b3⟩
  have X3 := hid (X2.out.below b3 X2.out.lt)
  have V3 := hid (V2.out.below b3)
  have S3 := hid (S2.out.below b3)
  have B3 := hid (B2.out.trans (b3.mono B2.out.size))
  clear b3 X2 V2 B2 S2 x0 x1 x2
  rcases E3 with ⟨_, B, rfl, hC⟩ | ⟨hM, _⟩
  rotate_left
  · exact absurd HM.out hM
  have C3 := hid hC
  clear hC
  have x0 := X3.out.cell0
  have x1 := X3.out.cell1
  have x2 := X3.out.cell2
  go_wp2_with fail
  refine (eenc_calls C3.out S3.out (by omega)).mono ?_
  rintro e w4 ⟨⟨a4, n4, c4, rfl, i4⟩, b4⟩
  have X4 := hid (X3.out.below b4 X3.out.lt)
  have V4 := hid (V3.out.below b4)
  have S4 := hid (S3.out.below b4)
  have C4 := hid (C3.out.below b4)
  have B4 := hid (B3.out.trans (b4.mono B3.out.size))
  obtain ⟨s, hs⟩ : ∃ s, by_ (str f bn) = s := ⟨_, rfl⟩
  rw [hs] at i4
  obtain ⟨xs, hxs⟩ : ∃ xs, Pr.enc ms (Vc.bt ts) s = xs := ⟨_, rfl⟩
  rw [hxs] at i4
  have I4 := hid i4
  have hsl : s.length = bn := by rw [← hs, by_length, str_size]
  have hle := Pr.enc_len (ms := ms) (f := Vc.bt ts) s
  rw [hxs, i4.len, hsl] at hle
  have HTK := hid (show Pr.Toks ts xs from by rw [← hxs]; exact (Pr.enc_cat HM.out.M (Vc.bytN_of HM.out.T) s).1)
  have hcap4 := i4.le
  have HXS := hid hxs
  have HS := hid hs
  have HL4 := hid i4.len
  have q1 := hat.1
  have q2 := hat.2
  have q3 : IntKind.i64.wrap at2 = at2 := i64_in (by omega) (by omega)
  have q4 : IntKind.i64.wrap ((n4 : Int) + 1) = (n4 : Int) + 1 := i64_in (by omega) (by omega)
  have q5 : ¬ (n4 : Int) + 1 = 0 := by omega
  obtain ⟨K, hK⟩ : ∃ K : Nat, at2 % ((n4 : Int) + 1) = (K : Int) := ⟨(at2 % ((n4 : Int) + 1)).toNat, by
    have := Int.emod_nonneg at2 (b := (n4 : Int) + 1) q5
    omega⟩
  have hKn : K ≤ n4 := by
    have := Int.emod_lt_of_pos at2 (b := (n4 : Int) + 1) (by omega)
    omega
  have HC := hid (Pr.enc_cut HM.out.M (Vc.bytN_of HM.out.T) (s := s) (C := xs.take K) (D := xs.drop K) (by rw [hxs, List.take_append_drop]))
  have q6 : (0 : Int) ≤ K := by omega
  have q7 : (K : Int) ≤ c4 := by omega
  have D0 := hid ((Below.refl w4.heap.size w4).drew)
  have IK := hid (i4.first K hKn)
  have HTA := hid (show Pr.Toks ts (xs.take K) from fun x hx => HTK.out x (List.mem_of_mem_take hx))
  clear b4 i4 X3 V3 B3 S3 C3 x0 x1 x2 hxs hs
  go_wp2_with fail
  go_region_held3 (fun w' => w'.cell? ⟨w.heap.size, 0, none⟩ = some (.slice a n c) ∧ w'.cell? ⟨w.heap.size, 1, none⟩ = some (.slice am nm cm) ∧ w'.cell? ⟨w.heap.size, 2, none⟩ = some (.slice az ns cs)) (first | exact keep_cells X4.out D0.out | exact keep_cells X4.out D1.out) (first | (go_at_call 20; refine (text_yes (V4.out.below D0.out) (IK.out.below D0.out) (fun i hi => Nat.le_trans (HSm.out.tz i (by omega)) (by decide)) (by omega) HTA.out).mono ?_; rintro e w5 ⟨⟨s1, rfl, hs1⟩, b5⟩; have D1 := hid (D0.out.trans b5); have HS1 := hid hs1; clear b5 hs1))
  have S5 := hid (S4.out.below D1.out)
  have X5 := hid (X4.out.below D1.out X4.out.lt)
  have V5 := hid (V4.out.below D1.out)
  have C5 := hid (C4.out.below D1.out)
  have I5 := hid (I4.out.below D1.out)
  have J5 := hid (IK.out.below D1.out)
  have B5 := hid (B4.out.trans (D1.out.mono B4.out.size))
  obtain ⟨m, hm⟩ : ∃ m, s1.size = m := ⟨_, rfl⟩
  have hml : m = (Pr.cat ts (xs.take K)).length := by rw [← hm, ← by_length, HS1.out]
  have hmn : m ≤ bn := by rw [hml, ← hsl, HC.out.1, List.length_append]; omega
  have HA := hid (show Pr.enc ms (Vc.bt ts) (by_ (str f m)) = xs.take K from by
    rw [by_str_take f hmn, HS.out]
    have e : s.take m = Pr.cat ts (xs.take K) := by
      conv => lhs; rw [HC.out.1, hml]
      rw [List.take_left]
    rw [e]
    exact HC.out.2.1)
  have HD := hid (show Pr.enc ms (Vc.bt ts) (by_ (str (fun q => f (m + q)) (bn - m))) = xs.drop K from by
    rw [by_str_drop f hmn, HS.out]
    have e : s.drop m = Pr.cat ts (xs.drop K) := by
      conv => lhs; rw [HC.out.1, hml]
      rw [List.drop_left]
    rw [e]
    exact HC.out.2.2)
  have r1 : ¬ (bn : Int) < m := by omega
  have r2 : (0 : Int) ≤ m := by omega
  have hcb := S5.out.le
  have r3 : (m : Int) ≤ bc := by omega
  have r4 : (m : Int) ≤ bn := by omega
  have r5 : (K : Int) ≤ n4 := by omega
  clear hml X4 V4 C4 I4 IK S4 B4 D0 D1
  have SA := hid (S5.out.first m hmn)
  have D0 := hid ((Below.refl w5.heap.size w5).drew)
  by_cases h0 : bn = 0
  · subst h0
    obtain rfl : n4 = 0 := by omega
    obtain rfl : K = 0 := by omega
    obtain rfl : m = 0 := by omega
    have hmx := S5.out.mx
    have hmx4 := I5.out.mx
    have hdz : xs.drop 0 = [] := List.eq_nil_of_length_eq_zero (by rw [List.length_drop, HL4.out])
    have SN := hid (show Sl w5 none 0 0 (fun q => f (0 + q)) from ⟨Nat.le_refl _, Nat.zero_le _, fun q => S5.out.bd _, fun _ => ⟨rfl, rfl⟩, fun h => absurd h (by omega)⟩)
    have SZ := hid (show ∀ (q : Addr) (cp : Nat), cp ≤ maxLen → Sl w5 (some q) 0 cp (fun q => f (0 + q)) from fun q cp h => ⟨Nat.zero_le _, h, fun q => S5.out.bd _, fun e => absurd e (by simp), fun h => absurd h (by omega)⟩)
    have IN := hid (show Ir w5 none 0 0 (xs.drop 0) from by rw [hdz]; exact Ir.zero w5 none 0 (Nat.zero_le _) (fun _ => rfl))
    have IZ := hid (show ∀ (q : Addr) (cp : Nat), cp ≤ maxLen → Ir w5 (some q) 0 cp (xs.drop 0) from fun q cp h => by rw [hdz]; exact Ir.zero w5 (some q) cp h (fun e => absurd e (by simp)))
    have HDz := HD
    clear hdz
    have wb : (ba = none ∧ bc = 0) ∨ (∃ p, ba = some p ∧ (bc = 0 ∨ ¬ bc = 0)) := by
      cases ba with
      | none => exact .inl ⟨rfl, (S5.out.nil rfl).2⟩
      | some p =>
        exact .inr ⟨p, rfl, Classical.em _⟩
    have wl : (a4 = none ∧ c4 = 0) ∨ (∃ p, a4 = some p ∧ (c4 = 0 ∨ ¬ c4 = 0)) := by
      cases a4 with
      | none => exact .inl ⟨rfl, (I5.out.nil rfl).2⟩
      | some p =>
        exact .inr ⟨p, rfl, Classical.em _⟩
    rcases wb with ⟨rfl, rfl⟩ | ⟨p, rfl, hb0⟩
    · rcases wl with ⟨rfl, rfl⟩ | ⟨p4, rfl, hc0⟩
      · skip
        go_wp2_with fail
        go_region_held3 (fun _ => True) (trivial) (first | (go_at_call 14; refine (eenc_calls (C5.out.below D0.out) (SA.out.below D0.out) (by omega)).mono ?_; rintro e w6 ⟨⟨a6, n6, c6, rfl, i6⟩, b6⟩; rw [HA.out] at i6; have D1 := hid (D0.out.trans (b6.mono D0.out.size)); have I6 := hid i6; clear b6 i6 SA) | (go_at_call 13; refine (says_is (b := true) (same_calls I6.out (J5.out.below D1.out)) (by simp)).mono ?_; rintro e w7 ⟨rfl, b7⟩; have D2 := hid (D1.out.trans (b7.mono D1.out.size)); clear b7 I6) | (go_at_call 14; refine (eenc_calls (C5.out.below D2.out) (SN.out.below D2.out) (by omega)).mono ?_; rintro e w8 ⟨⟨a8, n8, c8, rfl, i8⟩, b8⟩; rw [HD.out] at i8; have D3 := hid (D2.out.trans (b8.mono D2.out.size)); have I8 := hid i8; clear b8 i8 HD) | (go_at_call 13; refine (says_is (b := true) (same_calls I8.out ((IN.out).below D3.out)) (by simp)).mono ?_; rintro e w9 ⟨rfl, b9⟩; have D4 := hid (D3.out.trans (b9.mono D3.out.size)); clear b9 I8))
        have V9 := hid (V5.out.below D4.out)
        have X9 := hid (X5.out.below D4.out X5.out.lt)
        have C9 := hid (C5.out.below D4.out)
        have I9 := hid (I5.out.below D4.out)
        have B9 := hid (B5.out.trans (D4.out.mono B5.out.size))
        have R9 := hid (Below.refl w9.heap.size w9)
        clear V5 X5 C5 I5 B5 J5 S5 D0 D1 D2 D3 D4
        go_wp2_with fail
        go_loopg [85] 0 (fun r kv wr => r = 0 ∧ kv = .int .i64 0 ∧ w9 = wr)
        case atStart => exact ⟨rfl, rfl, rfl⟩
        case round =>
          obtain ⟨rfl, rfl, rfl⟩ := hrel
          have BR := B9
          go_wp2_with fail
          refine (efixed_calls _).mono ?_
          rintro e wf ⟨rfl, bf⟩
          have BF := hid (BR.out.trans (bf.mono BR.out.size))
          clear bf
          go_wp2_with fail
          go_ret
          exact ⟨rfl, BF.out⟩

      · rcases hc0 with rfl | hc0
        all_goals (
          go_wp2_with fail
          go_region_held3 (fun _ => True) (trivial) (first | (go_at_call 14; refine (eenc_calls (C5.out.below D0.out) (SA.out.below D0.out) (by omega)).mono ?_; rintro e w6 ⟨⟨a6, n6, c6, rfl, i6⟩, b6⟩; rw [HA.out] at i6; have D1 := hid (D0.out.trans (b6.mono D0.out.size)); have I6 := hid i6; clear b6 i6 SA) | (go_at_call 13; refine (says_is (b := true) (same_calls I6.out (J5.out.below D1.out)) (by simp)).mono ?_; rintro e w7 ⟨rfl, b7⟩; have D2 := hid (D1.out.trans (b7.mono D1.out.size)); clear b7 I6) | (go_at_call 14; refine (eenc_calls (C5.out.below D2.out) (SN.out.below D2.out) (by omega)).mono ?_; rintro e w8 ⟨⟨a8, n8, c8, rfl, i8⟩, b8⟩; rw [HD.out] at i8; have D3 := hid (D2.out.trans (b8.mono D2.out.size)); have I8 := hid i8; clear b8 i8 HD) | (go_at_call 13; refine (says_is (b := true) (same_calls I8.out ((IZ.out _ _ (by omega)).below D3.out)) (by simp)).mono ?_; rintro e w9 ⟨rfl, b9⟩; have D4 := hid (D3.out.trans (b9.mono D3.out.size)); clear b9 I8))
          have V9 := hid (V5.out.below D4.out)
          have X9 := hid (X5.out.below D4.out X5.out.lt)
          have C9 := hid (C5.out.below D4.out)
          have I9 := hid (I5.out.below D4.out)
          have B9 := hid (B5.out.trans (D4.out.mono B5.out.size))
          have R9 := hid (Below.refl w9.heap.size w9)
          clear V5 X5 C5 I5 B5 J5 S5 D0 D1 D2 D3 D4
          go_wp2_with fail
          go_loopg [85] 0 (fun r kv wr => r = 0 ∧ kv = .int .i64 0 ∧ w9 = wr)
          case atStart => exact ⟨rfl, rfl, rfl⟩
          case round =>
            obtain ⟨rfl, rfl, rfl⟩ := hrel
            have BR := B9
            go_wp2_with fail
            refine (efixed_calls _).mono ?_
            rintro e wf ⟨rfl, bf⟩
            have BF := hid (BR.out.trans (bf.mono BR.out.size))
            clear bf
            go_wp2_with fail
            go_ret
            exact ⟨rfl, BF.out⟩
)
    · rcases wl with ⟨rfl, rfl⟩ | ⟨p4, rfl, hc0⟩
      · rcases hb0 with rfl | hb0
        all_goals (
          go_wp2_with fail
          go_region_held3 (fun _ => True) (trivial) (first | (go_at_call 14; refine (eenc_calls (C5.out.below D0.out) (SA.out.below D0.out) (by omega)).mono ?_; rintro e w6 ⟨⟨a6, n6, c6, rfl, i6⟩, b6⟩; rw [HA.out] at i6; have D1 := hid (D0.out.trans (b6.mono D0.out.size)); have I6 := hid i6; clear b6 i6 SA) | (go_at_call 13; refine (says_is (b := true) (same_calls I6.out (J5.out.below D1.out)) (by simp)).mono ?_; rintro e w7 ⟨rfl, b7⟩; have D2 := hid (D1.out.trans (b7.mono D1.out.size)); clear b7 I6) | (go_at_call 14; refine (eenc_calls (C5.out.below D2.out) ((SZ.out _ _ (by omega)).below D2.out) (by omega)).mono ?_; rintro e w8 ⟨⟨a8, n8, c8, rfl, i8⟩, b8⟩; rw [HD.out] at i8; have D3 := hid (D2.out.trans (b8.mono D2.out.size)); have I8 := hid i8; clear b8 i8 HD) | (go_at_call 13; refine (says_is (b := true) (same_calls I8.out ((IN.out).below D3.out)) (by simp)).mono ?_; rintro e w9 ⟨rfl, b9⟩; have D4 := hid (D3.out.trans (b9.mono D3.out.size)); clear b9 I8))
          have V9 := hid (V5.out.below D4.out)
          have X9 := hid (X5.out.below D4.out X5.out.lt)
          have C9 := hid (C5.out.below D4.out)
          have I9 := hid (I5.out.below D4.out)
          have B9 := hid (B5.out.trans (D4.out.mono B5.out.size))
          have R9 := hid (Below.refl w9.heap.size w9)
          clear V5 X5 C5 I5 B5 J5 S5 D0 D1 D2 D3 D4
          go_wp2_with fail
          go_loopg [85] 0 (fun r kv wr => r = 0 ∧ kv = .int .i64 0 ∧ w9 = wr)
          case atStart => exact ⟨rfl, rfl, rfl⟩
          case round =>
            obtain ⟨rfl, rfl, rfl⟩ := hrel
            have BR := B9
            go_wp2_with fail
            refine (efixed_calls _).mono ?_
            rintro e wf ⟨rfl, bf⟩
            have BF := hid (BR.out.trans (bf.mono BR.out.size))
            clear bf
            go_wp2_with fail
            go_ret
            exact ⟨rfl, BF.out⟩
)
      · rcases hb0 with rfl | hb0 <;> rcases hc0 with rfl | hc0
        all_goals (
          go_wp2_with fail
          go_region_held3 (fun _ => True) (trivial) (first | (go_at_call 14; refine (eenc_calls (C5.out.below D0.out) (SA.out.below D0.out) (by omega)).mono ?_; rintro e w6 ⟨⟨a6, n6, c6, rfl, i6⟩, b6⟩; rw [HA.out] at i6; have D1 := hid (D0.out.trans (b6.mono D0.out.size)); have I6 := hid i6; clear b6 i6 SA) | (go_at_call 13; refine (says_is (b := true) (same_calls I6.out (J5.out.below D1.out)) (by simp)).mono ?_; rintro e w7 ⟨rfl, b7⟩; have D2 := hid (D1.out.trans (b7.mono D1.out.size)); clear b7 I6) | (go_at_call 14; refine (eenc_calls (C5.out.below D2.out) ((SZ.out _ _ (by omega)).below D2.out) (by omega)).mono ?_; rintro e w8 ⟨⟨a8, n8, c8, rfl, i8⟩, b8⟩; rw [HD.out] at i8; have D3 := hid (D2.out.trans (b8.mono D2.out.size)); have I8 := hid i8; clear b8 i8 HD) | (go_at_call 13; refine (says_is (b := true) (same_calls I8.out ((IZ.out _ _ (by omega)).below D3.out)) (by simp)).mono ?_; rintro e w9 ⟨rfl, b9⟩; have D4 := hid (D3.out.trans (b9.mono D3.out.size)); clear b9 I8))
          have V9 := hid (V5.out.below D4.out)
          have X9 := hid (X5.out.below D4.out X5.out.lt)
          have C9 := hid (C5.out.below D4.out)
          have I9 := hid (I5.out.below D4.out)
          have B9 := hid (B5.out.trans (D4.out.mono B5.out.size))
          have R9 := hid (Below.refl w9.heap.size w9)
          clear V5 X5 C5 I5 B5 J5 S5 D0 D1 D2 D3 D4
          go_wp2_with fail
          go_loopg [85] 0 (fun r kv wr => r = 0 ∧ kv = .int .i64 0 ∧ w9 = wr)
          case atStart => exact ⟨rfl, rfl, rfl⟩
          case round =>
            obtain ⟨rfl, rfl, rfl⟩ := hrel
            have BR := B9
            go_wp2_with fail
            refine (efixed_calls _).mono ?_
            rintro e wf ⟨rfl, bf⟩
            have BF := hid (BR.out.trans (bf.mono BR.out.size))
            clear bf
            go_wp2_with fail
            go_ret
            exact ⟨rfl, BF.out⟩
)
  · obtain ⟨bb, bo, rfl, _, _⟩ := S5.out.at' (by omega)
    have hn4 : 0 < n4 := by
      apply Nat.pos_of_ne_zero
      intro h
      have hx0 : xs = [] := List.eq_nil_of_length_eq_zero (by rw [HL4.out, h])
      have h1 := (Pr.enc_cat HM.out.M (Vc.bytN_of HM.out.T) s).2
      rw [HXS.out, hx0] at h1
      rw [← h1] at hsl
      exact h0 (by rw [← hsl]; rfl)
    obtain ⟨b4, o4, rfl, _, _⟩ := I5.out.at' hn4
    have hmx := S5.out.mx
    have hmx4 := I5.out.mx
    have wb : ∃ ad nb cp, nb = bn - m ∧ (¬ bc = m ∧ ad = (⟨bb, bo + m, none⟩ : Addr) ∧ cp = bc - m ∨ bc = m ∧ ad = ⟨bb, bo, none⟩ ∧ cp = 0) ∧ Sl w5 (some ad) nb cp (fun q => f (m + q)) := by
      by_cases h : bc = m
      · exact ⟨_, _, _, rfl, .inr ⟨h, rfl, rfl⟩, ⟨by omega, Nat.zero_le _, fun q => S5.out.bd _, fun e => absurd e (by simp), fun h => absurd h (by omega)⟩⟩
      · refine ⟨_, _, _, rfl, .inl ⟨h, rfl, rfl⟩, ?_⟩
        by_cases h2 : m < bn
        · exact S5.out.cut m h2
        · exact ⟨by omega, by omega, fun q => S5.out.bd _, fun e => absurd e (by simp), fun h => absurd h (by omega)⟩
    have wl : ∃ ad nb cp, nb = n4 - K ∧ (¬ c4 = K ∧ ad = (⟨b4, o4 + K, none⟩ : Addr) ∧ cp = c4 - K ∨ c4 = K ∧ ad = ⟨b4, o4, none⟩ ∧ cp = 0) ∧ Ir w5 (some ad) nb cp (xs.drop K) := by
      by_cases h : c4 = K
      · have hd : xs.drop K = [] := List.drop_eq_nil_of_le (by rw [HL4.out]; omega)
        refine ⟨_, _, _, rfl, .inr ⟨h, rfl, rfl⟩, ?_⟩
        rw [hd, show n4 - K = 0 by omega]
        exact Ir.zero w5 _ 0 (Nat.zero_le _) (fun e => absurd e (by simp))
      · exact ⟨_, _, _, rfl, .inl ⟨h, rfl, rfl⟩, I5.out.cut K hKn⟩
    obtain ⟨ad, nb, cp, hnb, wb, hSD⟩ := wb
    obtain ⟨ad4, nb4, cp4, hnb4, wl, hID⟩ := wl
    have SD := hid hSD
    have ID := hid hID
    rw [← hnb] at HD
    clear hSD hID
    rcases wb with ⟨hb, rfl, rfl⟩ | ⟨hb, rfl, rfl⟩ <;> rcases wl with ⟨hc, rfl, rfl⟩ | ⟨hc, rfl, rfl⟩
    · skip
      subst hnb
      subst hnb4
      go_wp2_with fail
      go_region_held3 (fun _ => True) (trivial) (first | (go_at_call 14; refine (eenc_calls (C5.out.below D0.out) (SA.out.below D0.out) (by omega)).mono ?_; rintro e w6 ⟨⟨a6, n6, c6, rfl, i6⟩, b6⟩; rw [HA.out] at i6; have D1 := hid (D0.out.trans (b6.mono D0.out.size)); have I6 := hid i6; clear b6 i6 SA) | (go_at_call 13; refine (says_is (b := true) (same_calls I6.out (J5.out.below D1.out)) (by simp)).mono ?_; rintro e w7 ⟨rfl, b7⟩; have D2 := hid (D1.out.trans (b7.mono D1.out.size)); clear b7 I6) | (go_at_call 14; refine (eenc_calls (C5.out.below D2.out) (SD.out.below D2.out) (by omega)).mono ?_; rintro e w8 ⟨⟨a8, n8, c8, rfl, i8⟩, b8⟩; rw [HD.out] at i8; have D3 := hid (D2.out.trans (b8.mono D2.out.size)); have I8 := hid i8; clear b8 i8 HD) | (go_at_call 13; refine (says_is (b := true) (same_calls I8.out (ID.out.below D3.out)) (by simp)).mono ?_; rintro e w9 ⟨rfl, b9⟩; have D4 := hid (D3.out.trans (b9.mono D3.out.size)); clear b9 I8))
      have V9 := hid (V5.out.below D4.out)
      have X9 := hid (X5.out.below D4.out X5.out.lt)
      have C9 := hid (C5.out.below D4.out)
      have I9 := hid (I5.out.below D4.out)
      have B9 := hid (B5.out.trans (D4.out.mono B5.out.size))
      have R9 := hid (Below.refl w9.heap.size w9)
      clear V5 X5 C5 I5 B5 J5 S5 D0 D1 D2 D3 D4
      go_wp2_with fail
      go_loopg [85] n4 (fun r kv wr => ∃ j : Nat, r = n4 - j ∧ j ≤ n4 ∧ kv = .int .i64 (j : Int) ∧ Hid (Below w9.heap.size w9 wr))
      case atStart => exact ⟨0, rfl, by omega, rfl, R9⟩
      case round =>
        clear R9
        obtain ⟨j, rfl, hj, rfl, HR⟩ := hrel
        have BR := hid (B9.out.trans (HR.out.mono B9.out.size))
        by_cases hlt : j < n4
        · have l0 : (0 : Int) ≤ j := by omega
          have l1 : (j : Int) < n4 := by omega
          have l2 : IntKind.i64.wrap ((j : Int) + 1) = j + 1 := i64_in (by omega) (by omega)
          obtain ⟨b1, o1, e1, _, hc1⟩ := (I9.out.below HR.out).at' (by omega)
          cases e1
          have p1 := hc1 j hlt
          have hxm := Pr.it_mem (xs := xs) (i := j) (by rw [HL4.out]; exact hlt)
          have hown := Pr.enc_own HM.out.M (Vc.bytN_of HM.out.T) (s := s) (x := it xs j) (by rw [HXS.out]; exact hxm)
          have his := HTK.out _ hxm
          obtain ⟨x, hx⟩ : ∃ x, it xs j = x := ⟨_, rfl⟩
          rw [hx] at p1 hown his
          obtain ⟨i, rfl⟩ : ∃ i : Nat, x = i := ⟨x.toNat, by have := his.1; omega⟩
          have hin : i < n := by have := his.2.1; omega
          unfold Vc.tok at hown
          rw [Int.toNat_natCast] at hown
          obtain ⟨tb, to, rfl, _, hct⟩ := (V9.out.below HR.out).T.at' (by omega)
          have p2 := hct i hin
          have hz2 := HSm.out.tz i (by omega)
          obtain ⟨s2, hs2⟩ : ∃ s2, at_ ts i = s2 := ⟨_, rfl⟩
          rw [hs2] at p2 hown hz2
          obtain ⟨cc, wc, hcv, SC, bC, szC⟩ := conv_bytes (P := Try.prog) wr 9 27 5 Try.underlying9 Try.underlying27 Try.underlying5 (St.any s2) (by unfold maxLen; omega)
          have c0 := (X9.out.below HR.out X9.out.lt).cell0
          have u1 : ¬ (i : Int) < 0 := by omega
          have u2 : ¬ (n : Int) ≤ i := by omega
          have u3 : (0 : Int) ≤ i := by omega
          have u4 : (i : Int) < n := by omega
          have HOW := hid (show Pr.enc ms (Vc.bt ts) (by_ (str (bytesF s2) s2.size)) = [(i : Int)] from by rw [← (St.any s2).eq_str]; exact hown)
          have SCh := hid SC
          have CC := hid ((C9.out.below HR.out).below bC)
          have RC := hid (HR.out.trans (bC.mono HR.out.size))
          clear hc1 hx hxm his hct hs2 hown SC bC szC
          go_wp2_with fail
          refine (eenc_calls CC.out SCh.out (by omega)).mono ?_
          rintro e w10 ⟨⟨a10, n10, c10, rfl, i10⟩, b10⟩
          rw [HOW.out] at i10
          have R10 := hid (RC.out.trans (b10.mono RC.out.size))
          have c11 := (Below.refl w10.heap.size w10).alloc (Nat.le_refl _) (.cells #[.int .i64 (i : Int)] 3)
          have R11 := hid (R10.out.alloc R10.out.size (.cells #[.int .i64 (i : Int)] 3))
          have I11 := hid (i10.below c11)
          have J11 := hid (Ir.block (xs := [(i : Int)]) (n := 1) rfl (heap_alloc_new w10 (.cells #[.int .i64 (i : Int)] 3)) (by decide))
          clear b10 i10 c11 R10 RC CC SCh hcv
          go_wp2_with fail
          refine (says_is (b := true) (same_calls I11.out J11.out) (by simp)).mono ?_
          rintro e w12 ⟨rfl, b12⟩
          have R12 := hid (R11.out.trans (b12.mono R11.out.size))
          clear b12 R11 I11 J11
          go_wp2_with fail
          go_roundg (n4 - (j + 1))
          case measure => omega
          case rel => exact ⟨j + 1, rfl, by omega, by go_num, R12⟩
        · have l1 : ¬ (j : Int) < n4 := by omega
          go_wp2_with fail
          refine (efixed_calls _).mono ?_
          rintro e wf ⟨rfl, bf⟩
          have BF := hid (BR.out.trans (bf.mono BR.out.size))
          clear bf
          go_wp2_with fail
          go_ret
          exact ⟨rfl, BF.out⟩
    · skip
      subst hc
      obtain rfl : n4 = c4 := by omega
      obtain rfl : nb4 = 0 := by omega
      clear hnb4
      subst hnb
      go_wp2_with fail
      go_region_held3 (fun _ => True) (trivial) (first | (go_at_call 14; refine (eenc_calls (C5.out.below D0.out) (SA.out.below D0.out) (by omega)).mono ?_; rintro e w6 ⟨⟨a6, n6, c6, rfl, i6⟩, b6⟩; rw [HA.out] at i6; have D1 := hid (D0.out.trans (b6.mono D0.out.size)); have I6 := hid i6; clear b6 i6 SA) | (go_at_call 13; refine (says_is (b := true) (same_calls I6.out (J5.out.below D1.out)) (by simp)).mono ?_; rintro e w7 ⟨rfl, b7⟩; have D2 := hid (D1.out.trans (b7.mono D1.out.size)); clear b7 I6) | (go_at_call 14; refine (eenc_calls (C5.out.below D2.out) (SD.out.below D2.out) (by omega)).mono ?_; rintro e w8 ⟨⟨a8, n8, c8, rfl, i8⟩, b8⟩; rw [HD.out] at i8; have D3 := hid (D2.out.trans (b8.mono D2.out.size)); have I8 := hid i8; clear b8 i8 HD) | (go_at_call 13; refine (says_is (b := true) (same_calls I8.out (ID.out.below D3.out)) (by simp)).mono ?_; rintro e w9 ⟨rfl, b9⟩; have D4 := hid (D3.out.trans (b9.mono D3.out.size)); clear b9 I8))
      have V9 := hid (V5.out.below D4.out)
      have X9 := hid (X5.out.below D4.out X5.out.lt)
      have C9 := hid (C5.out.below D4.out)
      have I9 := hid (I5.out.below D4.out)
      have B9 := hid (B5.out.trans (D4.out.mono B5.out.size))
      have R9 := hid (Below.refl w9.heap.size w9)
      clear V5 X5 C5 I5 B5 J5 S5 D0 D1 D2 D3 D4
      go_wp2_with fail
      go_loopg [85] n4 (fun r kv wr => ∃ j : Nat, r = n4 - j ∧ j ≤ n4 ∧ kv = .int .i64 (j : Int) ∧ Hid (Below w9.heap.size w9 wr))
      case atStart => exact ⟨0, rfl, by omega, rfl, R9⟩
      case round =>
        clear R9
        obtain ⟨j, rfl, hj, rfl, HR⟩ := hrel
        have BR := hid (B9.out.trans (HR.out.mono B9.out.size))
        by_cases hlt : j < n4
        · have l0 : (0 : Int) ≤ j := by omega
          have l1 : (j : Int) < n4 := by omega
          have l2 : IntKind.i64.wrap ((j : Int) + 1) = j + 1 := i64_in (by omega) (by omega)
          obtain ⟨b1, o1, e1, _, hc1⟩ := (I9.out.below HR.out).at' (by omega)
          cases e1
          have p1 := hc1 j hlt
          have hxm := Pr.it_mem (xs := xs) (i := j) (by rw [HL4.out]; exact hlt)
          have hown := Pr.enc_own HM.out.M (Vc.bytN_of HM.out.T) (s := s) (x := it xs j) (by rw [HXS.out]; exact hxm)
          have his := HTK.out _ hxm
          obtain ⟨x, hx⟩ : ∃ x, it xs j = x := ⟨_, rfl⟩
          rw [hx] at p1 hown his
          obtain ⟨i, rfl⟩ : ∃ i : Nat, x = i := ⟨x.toNat, by have := his.1; omega⟩
          have hin : i < n := by have := his.2.1; omega
          unfold Vc.tok at hown
          rw [Int.toNat_natCast] at hown
          obtain ⟨tb, to, rfl, _, hct⟩ := (V9.out.below HR.out).T.at' (by omega)
          have p2 := hct i hin
          have hz2 := HSm.out.tz i (by omega)
          obtain ⟨s2, hs2⟩ : ∃ s2, at_ ts i = s2 := ⟨_, rfl⟩
          rw [hs2] at p2 hown hz2
          obtain ⟨cc, wc, hcv, SC, bC, szC⟩ := conv_bytes (P := Try.prog) wr 9 27 5 Try.underlying9 Try.underlying27 Try.underlying5 (St.any s2) (by unfold maxLen; omega)
          have c0 := (X9.out.below HR.out X9.out.lt).cell0
          have u1 : ¬ (i : Int) < 0 := by omega
          have u2 : ¬ (n : Int) ≤ i := by omega
          have u3 : (0 : Int) ≤ i := by omega
          have u4 : (i : Int) < n := by omega
          have HOW := hid (show Pr.enc ms (Vc.bt ts) (by_ (str (bytesF s2) s2.size)) = [(i : Int)] from by rw [← (St.any s2).eq_str]; exact hown)
          have SCh := hid SC
          have CC := hid ((C9.out.below HR.out).below bC)
          have RC := hid (HR.out.trans (bC.mono HR.out.size))
          clear hc1 hx hxm his hct hs2 hown SC bC szC
          go_wp2_with fail
          refine (eenc_calls CC.out SCh.out (by omega)).mono ?_
          rintro e w10 ⟨⟨a10, n10, c10, rfl, i10⟩, b10⟩
          rw [HOW.out] at i10
          have R10 := hid (RC.out.trans (b10.mono RC.out.size))
          have c11 := (Below.refl w10.heap.size w10).alloc (Nat.le_refl _) (.cells #[.int .i64 (i : Int)] 3)
          have R11 := hid (R10.out.alloc R10.out.size (.cells #[.int .i64 (i : Int)] 3))
          have I11 := hid (i10.below c11)
          have J11 := hid (Ir.block (xs := [(i : Int)]) (n := 1) rfl (heap_alloc_new w10 (.cells #[.int .i64 (i : Int)] 3)) (by decide))
          clear b10 i10 c11 R10 RC CC SCh hcv
          go_wp2_with fail
          refine (says_is (b := true) (same_calls I11.out J11.out) (by simp)).mono ?_
          rintro e w12 ⟨rfl, b12⟩
          have R12 := hid (R11.out.trans (b12.mono R11.out.size))
          clear b12 R11 I11 J11
          go_wp2_with fail
          go_roundg (n4 - (j + 1))
          case measure => omega
          case rel => exact ⟨j + 1, rfl, by omega, by go_num, R12⟩
        · have l1 : ¬ (j : Int) < n4 := by omega
          go_wp2_with fail
          refine (efixed_calls _).mono ?_
          rintro e wf ⟨rfl, bf⟩
          have BF := hid (BR.out.trans (bf.mono BR.out.size))
          clear bf
          go_wp2_with fail
          go_ret
          exact ⟨rfl, BF.out⟩
    · skip
      subst hb
      obtain rfl : bn = bc := by omega
      obtain rfl : nb = 0 := by omega
      clear hnb
      subst hnb4
      go_wp2_with fail
      go_region_held3 (fun _ => True) (trivial) (first | (go_at_call 14; refine (eenc_calls (C5.out.below D0.out) (SA.out.below D0.out) (by omega)).mono ?_; rintro e w6 ⟨⟨a6, n6, c6, rfl, i6⟩, b6⟩; rw [HA.out] at i6; have D1 := hid (D0.out.trans (b6.mono D0.out.size)); have I6 := hid i6; clear b6 i6 SA) | (go_at_call 13; refine (says_is (b := true) (same_calls I6.out (J5.out.below D1.out)) (by simp)).mono ?_; rintro e w7 ⟨rfl, b7⟩; have D2 := hid (D1.out.trans (b7.mono D1.out.size)); clear b7 I6) | (go_at_call 14; refine (eenc_calls (C5.out.below D2.out) (SD.out.below D2.out) (by omega)).mono ?_; rintro e w8 ⟨⟨a8, n8, c8, rfl, i8⟩, b8⟩; rw [HD.out] at i8; have D3 := hid (D2.out.trans (b8.mono D2.out.size)); have I8 := hid i8; clear b8 i8 HD) | (go_at_call 13; refine (says_is (b := true) (same_calls I8.out (ID.out.below D3.out)) (by simp)).mono ?_; rintro e w9 ⟨rfl, b9⟩; have D4 := hid (D3.out.trans (b9.mono D3.out.size)); clear b9 I8))
      have V9 := hid (V5.out.below D4.out)
      have X9 := hid (X5.out.below D4.out X5.out.lt)
      have C9 := hid (C5.out.below D4.out)
      have I9 := hid (I5.out.below D4.out)
      have B9 := hid (B5.out.trans (D4.out.mono B5.out.size))
      have R9 := hid (Below.refl w9.heap.size w9)
      clear V5 X5 C5 I5 B5 J5 S5 D0 D1 D2 D3 D4
      go_wp2_with fail
      go_loopg [85] n4 (fun r kv wr => ∃ j : Nat, r = n4 - j ∧ j ≤ n4 ∧ kv = .int .i64 (j : Int) ∧ Hid (Below w9.heap.size w9 wr))
      case atStart => exact ⟨0, rfl, by omega, rfl, R9⟩
      case round =>
        clear R9
        obtain ⟨j, rfl, hj, rfl, HR⟩ := hrel
        have BR := hid (B9.out.trans (HR.out.mono B9.out.size))
        by_cases hlt : j < n4
        · have l0 : (0 : Int) ≤ j := by omega
          have l1 : (j : Int) < n4 := by omega
          have l2 : IntKind.i64.wrap ((j : Int) + 1) = j + 1 := i64_in (by omega) (by omega)
          obtain ⟨b1, o1, e1, _, hc1⟩ := (I9.out.below HR.out).at' (by omega)
          cases e1
          have p1 := hc1 j hlt
          have hxm := Pr.it_mem (xs := xs) (i := j) (by rw [HL4.out]; exact hlt)
          have hown := Pr.enc_own HM.out.M (Vc.bytN_of HM.out.T) (s := s) (x := it xs j) (by rw [HXS.out]; exact hxm)
          have his := HTK.out _ hxm
          obtain ⟨x, hx⟩ : ∃ x, it xs j = x := ⟨_, rfl⟩
          rw [hx] at p1 hown his
          obtain ⟨i, rfl⟩ : ∃ i : Nat, x = i := ⟨x.toNat, by have := his.1; omega⟩
          have hin : i < n := by have := his.2.1; omega
          unfold Vc.tok at hown
          rw [Int.toNat_natCast] at hown
          obtain ⟨tb, to, rfl, _, hct⟩ := (V9.out.below HR.out).T.at' (by omega)
          have p2 := hct i hin
          have hz2 := HSm.out.tz i (by omega)
          obtain ⟨s2, hs2⟩ : ∃ s2, at_ ts i = s2 := ⟨_, rfl⟩
          rw [hs2] at p2 hown hz2
          obtain ⟨cc, wc, hcv, SC, bC, szC⟩ := conv_bytes (P := Try.prog) wr 9 27 5 Try.underlying9 Try.underlying27 Try.underlying5 (St.any s2) (by unfold maxLen; omega)
          have c0 := (X9.out.below HR.out X9.out.lt).cell0
          have u1 : ¬ (i : Int) < 0 := by omega
          have u2 : ¬ (n : Int) ≤ i := by omega
          have u3 : (0 : Int) ≤ i := by omega
          have u4 : (i : Int) < n := by omega
          have HOW := hid (show Pr.enc ms (Vc.bt ts) (by_ (str (bytesF s2) s2.size)) = [(i : Int)] from by rw [← (St.any s2).eq_str]; exact hown)
          have SCh := hid SC
          have CC := hid ((C9.out.below HR.out).below bC)
          have RC := hid (HR.out.trans (bC.mono HR.out.size))
          clear hc1 hx hxm his hct hs2 hown SC bC szC
          go_wp2_with fail
          refine (eenc_calls CC.out SCh.out (by omega)).mono ?_
          rintro e w10 ⟨⟨a10, n10, c10, rfl, i10⟩, b10⟩
          rw [HOW.out] at i10
          have R10 := hid (RC.out.trans (b10.mono RC.out.size))
          have c11 := (Below.refl w10.heap.size w10).alloc (Nat.le_refl _) (.cells #[.int .i64 (i : Int)] 3)
          have R11 := hid (R10.out.alloc R10.out.size (.cells #[.int .i64 (i : Int)] 3))
          have I11 := hid (i10.below c11)
          have J11 := hid (Ir.block (xs := [(i : Int)]) (n := 1) rfl (heap_alloc_new w10 (.cells #[.int .i64 (i : Int)] 3)) (by decide))
          clear b10 i10 c11 R10 RC CC SCh hcv
          go_wp2_with fail
          refine (says_is (b := true) (same_calls I11.out J11.out) (by simp)).mono ?_
          rintro e w12 ⟨rfl, b12⟩
          have R12 := hid (R11.out.trans (b12.mono R11.out.size))
          clear b12 R11 I11 J11
          go_wp2_with fail
          go_roundg (n4 - (j + 1))
          case measure => omega
          case rel => exact ⟨j + 1, rfl, by omega, by go_num, R12⟩
        · have l1 : ¬ (j : Int) < n4 := by omega
          go_wp2_with fail
          refine (efixed_calls _).mono ?_
          rintro e wf ⟨rfl, bf⟩
          have BF := hid (BR.out.trans (bf.mono BR.out.size))
          clear bf
          go_wp2_with fail
          go_ret
          exact ⟨rfl, BF.out⟩
    · skip
      subst hb
      obtain rfl : bn = bc := by omega
      obtain rfl : nb = 0 := by omega
      clear hnb
      subst hc
      obtain rfl : n4 = c4 := by omega
      obtain rfl : nb4 = 0 := by omega
      clear hnb4
      go_wp2_with fail
      go_region_held3 (fun _ => True) (trivial) (first | (go_at_call 14; refine (eenc_calls (C5.out.below D0.out) (SA.out.below D0.out) (by omega)).mono ?_; rintro e w6 ⟨⟨a6, n6, c6, rfl, i6⟩, b6⟩; rw [HA.out] at i6; have D1 := hid (D0.out.trans (b6.mono D0.out.size)); have I6 := hid i6; clear b6 i6 SA) | (go_at_call 13; refine (says_is (b := true) (same_calls I6.out (J5.out.below D1.out)) (by simp)).mono ?_; rintro e w7 ⟨rfl, b7⟩; have D2 := hid (D1.out.trans (b7.mono D1.out.size)); clear b7 I6) | (go_at_call 14; refine (eenc_calls (C5.out.below D2.out) (SD.out.below D2.out) (by omega)).mono ?_; rintro e w8 ⟨⟨a8, n8, c8, rfl, i8⟩, b8⟩; rw [HD.out] at i8; have D3 := hid (D2.out.trans (b8.mono D2.out.size)); have I8 := hid i8; clear b8 i8 HD) | (go_at_call 13; refine (says_is (b := true) (same_calls I8.out (ID.out.below D3.out)) (by simp)).mono ?_; rintro e w9 ⟨rfl, b9⟩; have D4 := hid (D3.out.trans (b9.mono D3.out.size)); clear b9 I8))
      have V9 := hid (V5.out.below D4.out)
      have X9 := hid (X5.out.below D4.out X5.out.lt)
      have C9 := hid (C5.out.below D4.out)
      have I9 := hid (I5.out.below D4.out)
      have B9 := hid (B5.out.trans (D4.out.mono B5.out.size))
      have R9 := hid (Below.refl w9.heap.size w9)
      clear V5 X5 C5 I5 B5 J5 S5 D0 D1 D2 D3 D4
      go_wp2_with fail
      go_loopg [85] n4 (fun r kv wr => ∃ j : Nat, r = n4 - j ∧ j ≤ n4 ∧ kv = .int .i64 (j : Int) ∧ Hid (Below w9.heap.size w9 wr))
      case atStart => exact ⟨0, rfl, by omega, rfl, R9⟩
      case round =>
        clear R9
        obtain ⟨j, rfl, hj, rfl, HR⟩ := hrel
        have BR := hid (B9.out.trans (HR.out.mono B9.out.size))
        by_cases hlt : j < n4
        · have l0 : (0 : Int) ≤ j := by omega
          have l1 : (j : Int) < n4 := by omega
          have l2 : IntKind.i64.wrap ((j : Int) + 1) = j + 1 := i64_in (by omega) (by omega)
          obtain ⟨b1, o1, e1, _, hc1⟩ := (I9.out.below HR.out).at' (by omega)
          cases e1
          have p1 := hc1 j hlt
          have hxm := Pr.it_mem (xs := xs) (i := j) (by rw [HL4.out]; exact hlt)
          have hown := Pr.enc_own HM.out.M (Vc.bytN_of HM.out.T) (s := s) (x := it xs j) (by rw [HXS.out]; exact hxm)
          have his := HTK.out _ hxm
          obtain ⟨x, hx⟩ : ∃ x, it xs j = x := ⟨_, rfl⟩
          rw [hx] at p1 hown his
          obtain ⟨i, rfl⟩ : ∃ i : Nat, x = i := ⟨x.toNat, by have := his.1; omega⟩
          have hin : i < n := by have := his.2.1; omega
          unfold Vc.tok at hown
          rw [Int.toNat_natCast] at hown
          obtain ⟨tb, to, rfl, _, hct⟩ := (V9.out.below HR.out).T.at' (by omega)
          have p2 := hct i hin
          have hz2 := HSm.out.tz i (by omega)
          obtain ⟨s2, hs2⟩ : ∃ s2, at_ ts i = s2 := ⟨_, rfl⟩
          rw [hs2] at p2 hown hz2
          obtain ⟨cc, wc, hcv, SC, bC, szC⟩ := conv_bytes (P := Try.prog) wr 9 27 5 Try.underlying9 Try.underlying27 Try.underlying5 (St.any s2) (by unfold maxLen; omega)
          have c0 := (X9.out.below HR.out X9.out.lt).cell0
          have u1 : ¬ (i : Int) < 0 := by omega
          have u2 : ¬ (n : Int) ≤ i := by omega
          have u3 : (0 : Int) ≤ i := by omega
          have u4 : (i : Int) < n := by omega
          have HOW := hid (show Pr.enc ms (Vc.bt ts) (by_ (str (bytesF s2) s2.size)) = [(i : Int)] from by rw [← (St.any s2).eq_str]; exact hown)
          have SCh := hid SC
          have CC := hid ((C9.out.below HR.out).below bC)
          have RC := hid (HR.out.trans (bC.mono HR.out.size))
          clear hc1 hx hxm his hct hs2 hown SC bC szC
          go_wp2_with fail
          refine (eenc_calls CC.out SCh.out (by omega)).mono ?_
          rintro e w10 ⟨⟨a10, n10, c10, rfl, i10⟩, b10⟩
          rw [HOW.out] at i10
          have R10 := hid (RC.out.trans (b10.mono RC.out.size))
          have c11 := (Below.refl w10.heap.size w10).alloc (Nat.le_refl _) (.cells #[.int .i64 (i : Int)] 3)
          have R11 := hid (R10.out.alloc R10.out.size (.cells #[.int .i64 (i : Int)] 3))
          have I11 := hid (i10.below c11)
          have J11 := hid (Ir.block (xs := [(i : Int)]) (n := 1) rfl (heap_alloc_new w10 (.cells #[.int .i64 (i : Int)] 3)) (by decide))
          clear b10 i10 c11 R10 RC CC SCh hcv
          go_wp2_with fail
          refine (says_is (b := true) (same_calls I11.out J11.out) (by simp)).mono ?_
          rintro e w12 ⟨rfl, b12⟩
          have R12 := hid (R11.out.trans (b12.mono R11.out.size))
          clear b12 R11 I11 J11
          go_wp2_with fail
          go_roundg (n4 - (j + 1))
          case measure => omega
          case rel => exact ⟨j + 1, rfl, by omega, by go_num, R12⟩
        · have l1 : ¬ (j : Int) < n4 := by omega
          go_wp2_with fail
          refine (efixed_calls _).mono ?_
          rintro e wf ⟨rfl, bf⟩
          have BF := hid (BR.out.trans (bf.mono BR.out.size))
          clear bf
          go_wp2_with fail
          go_ret
          exact ⟨rfl, BF.out⟩
end Go.Proofs.Ytcjakjmhghoilaa
