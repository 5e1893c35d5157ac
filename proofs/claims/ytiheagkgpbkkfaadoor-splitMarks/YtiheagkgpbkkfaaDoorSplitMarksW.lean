/-
  Stage 13's law SplitMarks, walked.
-/
import Derived.Test.YtiheagkgpbkkfaaDoorSpFx
namespace Go.Proofs.YtiheagkgpbkkfaaDoor
open Go.RowKit
set_option linter.unusedVariables false
open Pr (it)
namespace Sp
/-- Pieces, all of them decided. -/
def decd (ps : List (Nat × Bool)) : List (Nat × Bool) := ps.map (fun p => (p.1, true))
theorem cutL_marks {cl : Int → Int} (hr : ∀ p, 0 ≤ cl p ∧ cl p ≤ 4) {may : Bool} (hy : may = true) {kind : Int} (h0 : 0 ≤ kind) (h3 : kind ≤ 3) (fin : Bool) {m : Int} (hm : isB m = false) (xs ys : List Int) :
    cutL cl may kind fin (xs ++ m :: ys) = (decd (cutL cl may kind true xs) ++ [(1, true)]) ++ cutL cl may kind fin ys := by
  subst hy
  unfold cutL decd
  rw [if_pos ⟨h0, h3, rfl⟩, if_pos ⟨h0, h3, rfl⟩, if_pos ⟨h0, h3, rfl⟩, sp_marks (Xk_cut hr (by omega)) fin hm ys _ xs (Nat.le_refl _), List.append_assoc]
  rfl
theorem decd_next {ps : List (Nat × Bool)} {j : Nat} (h : j < ps.length) : decd (ps.take (j + 1)) = decd (ps.take j) ++ [((pt ps j).1, true)] := by
  unfold decd
  rw [List.take_add_one, pt_get h, List.map_append]
  rfl
theorem decd_len (ps : List (Nat × Bool)) : (decd ps).length = ps.length := List.length_map ..
end Sp
theorem Pc.grown {w w' : World} {a : Option Addr} {n cap : Nat} {xs : List (Nat × Bool)} {row : Option Nat} (h : Pc w a n cap xs) (hg : w.grownBy w' row) (hne : ∀ ad, a = some ad → some ad.block ≠ row) : Pc w' a n cap xs :=
  ⟨h.len, h.le, h.mx, h.nil, fun hn => by
    obtain ⟨b, off, e, hlt, hc⟩ := h.at' hn
    have hb := hg.block b hlt (hne _ e)
    exact ⟨b, off, e, Nat.lt_of_lt_of_le hlt hg.size, fun i hi => ⟨by rw [World.cell?_of_block (a := ⟨b, off + i * 2, none⟩) hb]; exact (hc i hi).1, by rw [World.cell?_of_block (a := ⟨b, off + i * 2 + 1, none⟩) hb]; exact (hc i hi).2⟩⟩⟩
set_option maxRecDepth 100000 in
set_option maxHeartbeats 6400000 in
theorem splitMarks_calls {w : World} {ta a b : Option Addr} {tn tc n c m d : Nat} {L H C : Nat → Int} {xs ys : Pr.Row} (kind : Int) (T : Rs w ta tn tc L H C) (X : Ir w a n c xs) (Y : Ir w b m d ys) (mark : Int) (fin : Bool) (hE : Ends w) :
    Calls Tryd.prog 5 #[.int .i64 kind, .slice ta tn tc, .slice a n c, .slice b m d, .int .i64 mark, .bool fin] w fun e w' => e = .returned (.bool true) ∧ Below w.heap.size w w' := by
  obtain ⟨i0, hi0, hz0, hz1, hz2⟩ := info_parts Tryd.infoIn
  obtain ⟨i1, hi1, hy0, hy1, hy2⟩ := info_parts Tryd.infoPc
  have HT := hid T
  have HX := hid X
  have HY := hid Y
  have HL := hid X.len
  have HLY := hid Y.len
  have HE := hid hE
  have h1 := Nat.le_trans T.le T.mx
  have h2 := Nat.le_trans X.le X.mx
  have h3 := Nat.le_trans Y.le Y.mx
  have h2' := h2
  unfold maxLen at h2' h3
  clear T X Y hE
  have HFix := hid (fun (w1 : World) (b : Below w.heap.size w w1) => (fixed13_calls (HE.out.below b (Nat.le_refl _))).mono (fun e w' h => (⟨h.1, b.trans (h.2.mono b.size)⟩ : e = .returned (.bool true) ∧ Below w.heap.size w w')))
  go_enter Tryd.func5, Tryd.ntmps5
  go_wp2_with fail
  refine (pgreat_calls h1 h2).mono ?_
  rintro e wq ⟨rfl, rfl⟩
  cases hg : greatP tn n with
  | true =>
    clear hg
    go_wp2_with fail
    refine (HFix.out _ (Below.refl _ _)).mono ?_
    rintro e w1 ⟨rfl, b1⟩
    have HB1 := hid b1
    clear b1
    go_wp2_with fail
    go_ret
    exact ⟨rfl, HB1.out⟩
  | false =>
    clear hg h1 h2
    by_cases hn60 : 60 < n
    · have k1 : (60 : Int) < n := by omega
      go_wp2_with fail
      refine (HFix.out _ (Below.refl _ _)).mono ?_
      rintro e w1 ⟨rfl, b1⟩
      have HB1 := hid b1
      clear b1
      go_wp2_with fail
      go_ret
      exact ⟨rfl, HB1.out⟩
    have k1 : ¬ (60 : Int) < n := by omega
    by_cases hm60 : 60 < m
    · have k2 : (60 : Int) < m := by omega
      go_wp2_with fail
      refine (HFix.out _ (Below.refl _ _)).mono ?_
      rintro e w1 ⟨rfl, b1⟩
      have HB1 := hid b1
      clear b1
      go_wp2_with fail
      go_ret
      exact ⟨rfl, HB1.out⟩
    have k2 : ¬ (60 : Int) < m := by omega
    by_cases hmk : 0 ≤ mark ∧ mark < 256
    · have k3 : 0 ≤ mark := hmk.1
      have k4 : mark < 256 := hmk.2
      clear hmk
      go_wp2_with fail
      refine (HFix.out _ (Below.refl _ _)).mono ?_
      rintro e w1 ⟨rfl, b1⟩
      have HB1 := hid b1
      clear b1
      go_wp2_with fail
      go_ret
      exact ⟨rfl, HB1.out⟩
    have HMK := hid (show Sp.isB mark = false by unfold Sp.isB; simp; omega)
    by_cases hm0 : 0 ≤ mark
    · have k4 : ¬ mark < 256 := fun h => hmk ⟨hm0, h⟩
      clear hmk
      by_cases hk0 : kind < 0
      · skip
        go_wp2_with fail
        refine (HFix.out _ (Below.refl _ _)).mono ?_
        rintro e w1 ⟨rfl, b1⟩
        have HB1 := hid b1
        clear b1
        go_wp2_with fail
        go_ret
        exact ⟨rfl, HB1.out⟩
      by_cases hk3 : 3 < kind
      · skip
        go_wp2_with fail
        refine (HFix.out _ (Below.refl _ _)).mono ?_
        rintro e w1 ⟨rfl, b1⟩
        have HB1 := hid b1
        clear b1
        go_wp2_with fail
        go_ret
        exact ⟨rfl, HB1.out⟩
      go_wp2_with fail
      refine (rmay_calls ta tn tc L H C _ HT.out).mono ?_
      rintro e w1 ⟨rfl, b1⟩
      have B1 := hid b1
      cases hmy : Cl.may L H C tn with
      | false =>
        clear hmy b1
        go_wp2_with fail
        refine (HFix.out _ B1.out).mono ?_
        rintro e w2 ⟨rfl, b2⟩
        have HB2 := hid b2
        clear b2
        go_wp2_with fail
        go_ret
        exact ⟨rfl, HB2.out⟩
      | true =>
        have hpl := Sp.cutL_len (Cl.of_rg L H C tn) (Cl.may L H C tn) kind true xs
        have hql := Sp.cutL_len (Cl.of_rg L H C tn) (Cl.may L H C tn) kind fin ys
        have hmr := Sp.cutL_marks (Cl.of_rg L H C tn) hmy (kind := kind) (by omega) (by omega) fin HMK.out xs ys
        rw [HL.out] at hpl
        rw [HLY.out] at hql
        obtain ⟨ps, hps⟩ : ∃ ps, Sp.cutL (Cl.of L H C tn) (Cl.may L H C tn) kind true xs = ps := ⟨_, rfl⟩
        obtain ⟨qs, hqs⟩ : ∃ qs, Sp.cutL (Cl.of L H C tn) (Cl.may L H C tn) kind fin ys = qs := ⟨_, rfl⟩
        rw [hps, hqs] at hmr
        rw [hps] at hpl
        rw [hqs] at hql
        have HPS := hid hps
        have HQS := hid hqs
        have HMR := hid hmr
        obtain ⟨pm, hpm⟩ : ∃ m, ps.length = m := ⟨_, rfl⟩
        obtain ⟨qm, hqm⟩ : ∃ m, qs.length = m := ⟨_, rfl⟩
        rw [hpm] at hpl
        rw [hqm] at hql
        have HPM := hid hpm
        have HQM := hid hqm
        have O1 := hid (own_empty (w := w1) (base := wq.heap.size) (e := 33) (size := 2) w1.heap.size rfl b1.size)
        have b2 := B1.out.alloc b1.size (.cells #[] 33)
        have B2 := hid b2
        have T2 := hid (HT.out.below b2)
        have X2 := hid (HX.out.below b2)
        have E2 := hid (HE.out.below b2 (Nat.le_refl _))
        clear hmy hps hqs hmr hpm hqm b1 b2 B1
        go_wp2_with fail
        refine (split_calls kind T2.out X2.out true (by omega) E2.out).mono ?_
        rw [HPS.out]
        rintro e w4 ⟨v4, rfl, o4, b4⟩
        obtain ⟨a4, c4, rfl, p4⟩ := Pc.ofOwn o4
        have LW := hid (show ∀ ad, a4 = some ad → w1.heap.size + 1 ≤ ad.block ∧ ad.block < w4.heap.size from fun ad e => by
          have := o4.lt ad.block (by rw [e]; rfl)
          rw [World.size_alloc] at this
          exact this)
        rw [HPM.out] at p4 ⊢
        have P4 := hid p4
        have B4 := hid (B2.out.trans (b4.mono B2.out.size))
        have O4 := hid (own_below O1.out b4)
        clear o4 b4 p4 O1 B2 T2 X2 E2
        go_wp2_with fail
        go_loopg [13, 58] pm (fun r ov iv wr => ∃ j : Nat, r = pm - j ∧ j ≤ pm ∧ iv = .int .i64 (j : Int) ∧ Hid (wr.ownsRow wq.heap.size 33 2 ov j (pcv (Sp.decd (ps.take j)))) ∧ Hid (w4.heap.size ≤ wr.heap.size) ∧ Hid (Below wq.heap.size wq wr) ∧ Hid (Pc wr a4 pm c4 ps) ∧ Hid (∀ ad, a4 = some ad → some ad.block ≠ ov.ownBlock))
        case atStart => exact ⟨0, rfl, by omega, rfl, O4, hid (Nat.le_refl _), B4, P4, hid (fun ad e h => by
          have h1 := (LW.out ad e).1
          have h2 : ad.block = w1.heap.size := Option.some.inj h
          omega)⟩
        case round =>
          obtain ⟨j, rfl, hj, rfl, HO, HZ, HB, HP, HN⟩ := hrel
          by_cases hlt : j < pm
          · have k5 : (j : Int) < pm := by omega
            have k6 : (0 : Int) ≤ j := by omega
            have e2 : IntKind.i64.wrap ((j : Int) + 1) = j + 1 := i64_in (by omega) (by omega)
            have hdn := Sp.decd_next (ps := ps) (j := j) (by rw [HPM.out]; exact hlt)
            obtain ⟨⟨N, dd⟩, hx⟩ : ∃ x, pt ps j = x := ⟨_, rfl⟩
            have P5 := hid ((HP.out.below ((Below.refl wr.heap.size wr).alloc (Nat.le_refl _) (.cells #[.int .i64 (N : Nat), .bool dd] 33))).below ((Below.refl _ (wr.alloc (.cells #[.int .i64 (N : Nat), .bool dd] 33))).alloc (Nat.le_refl _) (.cells #[.int .i64 (N : Nat), .bool true] 33)))
            have B5 := hid ((HB.out.alloc HB.out.size (.cells #[.int .i64 (N : Nat), .bool dd] 33)).alloc (by have := HB.out.size; simp; omega) (.cells #[.int .i64 (N : Nat), .bool true] 33))
            have O5 := hid ((HO.out.alloc (.cells #[.int .i64 (N : Nat), .bool dd] 33)).alloc (.cells #[.int .i64 (N : Nat), .bool true] 33))
            have S5 := hid (src_pc (w := wr.alloc (.cells #[.int .i64 (N : Nat), .bool dd] 33)) (N : Nat) true 33)
            obtain ⟨b1, o1, he1, _, c1⟩ := HP.out.at' (by omega)
            have S6 := S5
            rw [World.size_alloc] at S6
            subst he1
            obtain ⟨p0, p1⟩ := c1 j hlt
            rw [hx] at p0 p1 hdn
            simp only at p0 p1 hdn
            have HDN := hid hdn
            clear c1 hx hdn
            go_wp2_with (at_builtin; refine wpList_append_src rfl _ _ 26 rfl wq.heap.size 33 i1 _ 2 16 Tryd.underlying26 hi1 hy0 hy1 hy2 rfl (by omega) _ j (pcv (Sp.decd (ps.take j))) rfl O5.out _ 1 1 [.int .i64 (N : Nat), .bool true] rfl (by first | exact S5.out | exact S6.out) (by unfold maxLen; omega) (by omega) B5.out.size ?_; intro v6 w6 ho6 hg6 ha6; have O6 := hid ho6; have B6 := hid (B5.out.grown hg6 B5.out.size (fun k hk => (O5.out.lt k hk).1)); have P6 := hid (P5.out.grown hg6 HN.out); have Z6 := hid hg6.size; have A6 := hid ha6; clear ho6 hg6 ha6)
            have O7 := hid (show w6.ownsRow wq.heap.size 33 2 v6 (j + 1) (pcv (Sp.decd (ps.take (j + 1)))) from by
              rw [HDN.out, ← pcv_snoc]
              exact O6.out)
            have Z7 := hid (show w4.heap.size ≤ w6.heap.size by have h := Z6.out; have h' := HZ.out; simp at h; omega)
            have N7 : Hid (∀ ad, some (⟨b1, o1, none⟩ : Addr) = some ad → some ad.block ≠ v6.ownBlock) := fun ad e h => by
              rcases A6.out with h' | h'
              · exact HN.out ad e (h.trans h')
              · have h1 := (LW.out ad e).2
                have h2 := HZ.out
                rw [h'] at h
                have h3 := Option.some.inj h
                simp at h3
                omega
            clear O6 Z6 A6 S5 S6 O5 P5 B5 HO HB HP HN
            go_wp2_with fail
            go_roundg (pm - (j + 1))
            case measure => omega
            case rel => exact ⟨j + 1, rfl, by omega, by go_num, O7, Z7, B6, P6, N7⟩
          · have hjm : j = pm := by omega
            have k5 : ¬ (j : Int) < pm := by omega
            have o8 := HO.out
            rw [hjm, List.take_of_length_le (by rw [HPM.out]; exact Nat.le_refl _)] at o8
            have O8 := hid o8
            clear o8
            have BA := hid (HB.out.alloc HB.out.size (.cells #[.int .i64 1, .bool true] 33))
            clear hjm HO HN HP HZ LW P4 O4 B4
            go_wp2_with (at_builtin; refine wpList_append_src rfl _ _ 26 rfl wq.heap.size 33 i1 _ 2 16 Tryd.underlying26 hi1 hy0 hy1 hy2 rfl (by omega) _ pm (pcv (Sp.decd ps)) rfl (O8.out.alloc (.cells #[.int .i64 1, .bool true] 33)) (some ⟨wr.heap.size, 0, none⟩) 1 1 [.int .i64 1, .bool true] rfl (src_pc 1 true 33) (by unfold maxLen; omega) (by omega) BA.out.size ?_; intro v9 w9 ho9 hg9 ha9; have O9 := hid ho9; have B9 := hid (BA.out.grown hg9 BA.out.size (fun k hk => (O8.out.lt k hk).1)); clear ho9 hg9 ha9)
            have T9 := hid (HT.out.below B9.out)
            have Y9 := hid (HY.out.below B9.out)
            have E9 := hid (HE.out.below B9.out (Nat.le_refl _))
            clear O8 HB BA
            refine (split_calls kind T9.out Y9.out fin (by omega) E9.out).mono ?_
            rw [HQS.out]
            rintro e w10 ⟨v10, rfl, o10, b10⟩
            obtain ⟨a10, c10, rfl, p10⟩ := Pc.ofOwn o10
            rw [HQM.out] at p10 ⊢
            have Q10 := hid p10
            have O10 := hid (own_below O9.out b10)
            have B10 := hid (B9.out.trans (b10.mono B9.out.size))
            clear o10 b10 p10 O9 B9 T9 Y9 E9
            go_wp2_with (at_builtin; first
              | (refine wpList_append_src rfl _ _ 26 rfl wq.heap.size 33 i1 _ 2 16 Tryd.underlying26 hi1 hy0 hy1 hy2 rfl (by omega) _ (pm + 1) _ rfl O10.out a10 qm c10 (pcv qs) rfl Q10.out.src (by unfold maxLen; omega) (by omega) B10.out.size ?_
                 intro v11 w11 ho11 hg11 ha11
                 have O11 := hid ho11
                 have B11 := hid (B10.out.grown hg11 B10.out.size (fun k hk => (O10.out.lt k hk).1))
                 have M11 := hid (own_empty (w := w11) (base := w11.heap.size) (e := 3) (size := 1) w11.heap.size rfl (Nat.le_refl _))
                 have D12 := hid ((Below.refl w11.heap.size w11).alloc (Nat.le_refl _) (.cells #[] 3))
                 have X12 := hid (HX.out.below (B11.out.alloc B11.out.size (.cells #[] 3)))
                 clear ho11 hg11 ha11)
              | (refine wpList_append_src rfl _ _ 23 rfl w11.heap.size 3 i0 _ 1 8 Tryd.underlying23 hi0 hz0 hz1 hz2 rfl (by omega) _ 0 [] rfl M11.out a n c (iv xs) rfl X12.out.src (by unfold maxLen; omega) (by omega) D12.out.size ?_
                 intro v13 w13 ho13 hg13 ha13
                 have M13 := hid ho13
                 have D13 := hid (D12.out.grown hg13 D12.out.size (fun k hk => (M11.out.lt k hk).1))
                 have D14 := hid (D13.out.alloc D13.out.size (.cells #[.int .i64 mark] 3))
                 clear ho13 hg13 ha13)
              | (refine wpList_append_src rfl _ _ 23 rfl w11.heap.size 3 i0 _ 1 8 Tryd.underlying23 hi0 hz0 hz1 hz2 rfl (by omega) _ (0 + n) ([] ++ iv xs) rfl (M13.out.alloc (.cells #[.int .i64 mark] 3)) (some ⟨w13.heap.size, 0, none⟩) 1 1 [.int .i64 mark] rfl (Src.new #[.int .i64 mark] 3 w13.heap.size rfl rfl (by simp [Value.oneCell'])) (by unfold maxLen; omega) (by omega) D14.out.size ?_
                 intro v15 w15 ho15 hg15 ha15
                 have M15 := hid ho15
                 have D15 := hid (D14.out.grown hg15 D14.out.size (fun k hk => (M13.out.lt k hk).1))
                 clear ho15 hg15 ha15))
            have B15 := hid (B11.out.trans (D15.out.mono B11.out.size))
            have O15 := hid (own_below O11.out D15.out)
            have m15 := M15.out
            rw [Nat.zero_add, List.nil_append, show iv xs ++ [Value.int .i64 mark] = iv (xs ++ [mark]) from iv_append xs [mark]] at m15
            obtain ⟨a15, c15, rfl, x15⟩ := Ir.ofOwn m15
            have X15 := hid x15
            have Y15 := hid (HY.out.below B15.out)
            clear m15 x15 O11 B11 M11 M13 M15 D12 D13 D14 D15 X12 O10 B10 Q10
            refine (sjoin_calls X15.out Y15.out (by omega) (by omega)).mono ?_
            rintro e w16 ⟨v16, rfl, o16, b16⟩
            rw [List.append_assoc, List.singleton_append] at o16
            obtain ⟨a16, c16, rfl, x16⟩ := Ir.ofOwn o16
            have X16 := hid x16
            have B16 := hid (B15.out.trans (b16.mono B15.out.size))
            have O16 := hid (own_below O15.out b16)
            clear o16 b16 x16 X15 Y15 B15 O15
            go_wp2_with fail
            refine (fixed13_calls (HE.out.below B16.out (Nat.le_refl _))).mono ?_
            rintro e w17 ⟨rfl, b17⟩
            have B17 := hid (B16.out.trans (b17.mono B16.out.size))
            have X17 := hid (X16.out.below b17)
            have O17 := hid (own_below O16.out b17)
            have T17 := hid (HT.out.below B17.out)
            have E17 := hid (HE.out.below B17.out (Nat.le_refl _))
            clear b17 B16 X16 O16
            go_wp2_with fail
            refine (split_calls kind T17.out X17.out fin (by omega) E17.out).mono ?_
            rw [HMR.out]
            rintro e w18 ⟨v18, rfl, o18, b18⟩
            have hlm : ((Sp.decd ps ++ [(1, true)]) ++ qs).length = pm + 1 + qm := by rw [List.length_append, List.length_append, Sp.decd_len, HPM.out, HQM.out]; rfl
            rw [hlm] at o18
            obtain ⟨a18, c18, rfl, p18⟩ := Pc.ofOwn o18
            have o19 := own_below O17.out b18
            rw [show pcv (Sp.decd ps) ++ [Value.int .i64 1, Value.bool true] ++ pcv qs = pcv ((Sp.decd ps ++ [(1, true)]) ++ qs) from by rw [← pcv_append, ← pcv_append]; rfl] at o19
            obtain ⟨a19, c19, rfl, p19⟩ := Pc.ofOwn o19
            have P18 := hid p18
            have P19 := hid p19
            have B18 := hid (B17.out.trans (b18.mono B17.out.size))
            clear hlm o18 b18 p18 o19 p19 B17 X17 O17 T17 E17
            go_wp2_with fail
            refine (psame_yes P18.out P19.out (by omega)).mono ?_
            rintro e w20 ⟨rfl, b20⟩
            have B20 := hid (B18.out.trans (b20.mono B18.out.size))
            clear b20 B18 P18 P19
            go_wp2_with fail
            go_ret
            exact ⟨rfl, B20.out⟩
    · clear hmk
      by_cases hk0 : kind < 0
      · skip
        go_wp2_with fail
        refine (HFix.out _ (Below.refl _ _)).mono ?_
        rintro e w1 ⟨rfl, b1⟩
        have HB1 := hid b1
        clear b1
        go_wp2_with fail
        go_ret
        exact ⟨rfl, HB1.out⟩
      by_cases hk3 : 3 < kind
      · skip
        go_wp2_with fail
        refine (HFix.out _ (Below.refl _ _)).mono ?_
        rintro e w1 ⟨rfl, b1⟩
        have HB1 := hid b1
        clear b1
        go_wp2_with fail
        go_ret
        exact ⟨rfl, HB1.out⟩
      go_wp2_with fail
      refine (rmay_calls ta tn tc L H C _ HT.out).mono ?_
      rintro e w1 ⟨rfl, b1⟩
      have B1 := hid b1
      cases hmy : Cl.may L H C tn with
      | false =>
        clear hmy b1
        go_wp2_with fail
        refine (HFix.out _ B1.out).mono ?_
        rintro e w2 ⟨rfl, b2⟩
        have HB2 := hid b2
        clear b2
        go_wp2_with fail
        go_ret
        exact ⟨rfl, HB2.out⟩
      | true =>
        have hpl := Sp.cutL_len (Cl.of_rg L H C tn) (Cl.may L H C tn) kind true xs
        have hql := Sp.cutL_len (Cl.of_rg L H C tn) (Cl.may L H C tn) kind fin ys
        have hmr := Sp.cutL_marks (Cl.of_rg L H C tn) hmy (kind := kind) (by omega) (by omega) fin HMK.out xs ys
        rw [HL.out] at hpl
        rw [HLY.out] at hql
        obtain ⟨ps, hps⟩ : ∃ ps, Sp.cutL (Cl.of L H C tn) (Cl.may L H C tn) kind true xs = ps := ⟨_, rfl⟩
        obtain ⟨qs, hqs⟩ : ∃ qs, Sp.cutL (Cl.of L H C tn) (Cl.may L H C tn) kind fin ys = qs := ⟨_, rfl⟩
        rw [hps, hqs] at hmr
        rw [hps] at hpl
        rw [hqs] at hql
        have HPS := hid hps
        have HQS := hid hqs
        have HMR := hid hmr
        obtain ⟨pm, hpm⟩ : ∃ m, ps.length = m := ⟨_, rfl⟩
        obtain ⟨qm, hqm⟩ : ∃ m, qs.length = m := ⟨_, rfl⟩
        rw [hpm] at hpl
        rw [hqm] at hql
        have HPM := hid hpm
        have HQM := hid hqm
        have O1 := hid (own_empty (w := w1) (base := wq.heap.size) (e := 33) (size := 2) w1.heap.size rfl b1.size)
        have b2 := B1.out.alloc b1.size (.cells #[] 33)
        have B2 := hid b2
        have T2 := hid (HT.out.below b2)
        have X2 := hid (HX.out.below b2)
        have E2 := hid (HE.out.below b2 (Nat.le_refl _))
        clear hmy hps hqs hmr hpm hqm b1 b2 B1
        go_wp2_with fail
        refine (split_calls kind T2.out X2.out true (by omega) E2.out).mono ?_
        rw [HPS.out]
        rintro e w4 ⟨v4, rfl, o4, b4⟩
        obtain ⟨a4, c4, rfl, p4⟩ := Pc.ofOwn o4
        have LW := hid (show ∀ ad, a4 = some ad → w1.heap.size + 1 ≤ ad.block ∧ ad.block < w4.heap.size from fun ad e => by
          have := o4.lt ad.block (by rw [e]; rfl)
          rw [World.size_alloc] at this
          exact this)
        rw [HPM.out] at p4 ⊢
        have P4 := hid p4
        have B4 := hid (B2.out.trans (b4.mono B2.out.size))
        have O4 := hid (own_below O1.out b4)
        clear o4 b4 p4 O1 B2 T2 X2 E2
        go_wp2_with fail
        go_loopg [13, 58] pm (fun r ov iv wr => ∃ j : Nat, r = pm - j ∧ j ≤ pm ∧ iv = .int .i64 (j : Int) ∧ Hid (wr.ownsRow wq.heap.size 33 2 ov j (pcv (Sp.decd (ps.take j)))) ∧ Hid (w4.heap.size ≤ wr.heap.size) ∧ Hid (Below wq.heap.size wq wr) ∧ Hid (Pc wr a4 pm c4 ps) ∧ Hid (∀ ad, a4 = some ad → some ad.block ≠ ov.ownBlock))
        case atStart => exact ⟨0, rfl, by omega, rfl, O4, hid (Nat.le_refl _), B4, P4, hid (fun ad e h => by
          have h1 := (LW.out ad e).1
          have h2 : ad.block = w1.heap.size := Option.some.inj h
          omega)⟩
        case round =>
          obtain ⟨j, rfl, hj, rfl, HO, HZ, HB, HP, HN⟩ := hrel
          by_cases hlt : j < pm
          · have k5 : (j : Int) < pm := by omega
            have k6 : (0 : Int) ≤ j := by omega
            have e2 : IntKind.i64.wrap ((j : Int) + 1) = j + 1 := i64_in (by omega) (by omega)
            have hdn := Sp.decd_next (ps := ps) (j := j) (by rw [HPM.out]; exact hlt)
            obtain ⟨⟨N, dd⟩, hx⟩ : ∃ x, pt ps j = x := ⟨_, rfl⟩
            have P5 := hid ((HP.out.below ((Below.refl wr.heap.size wr).alloc (Nat.le_refl _) (.cells #[.int .i64 (N : Nat), .bool dd] 33))).below ((Below.refl _ (wr.alloc (.cells #[.int .i64 (N : Nat), .bool dd] 33))).alloc (Nat.le_refl _) (.cells #[.int .i64 (N : Nat), .bool true] 33)))
            have B5 := hid ((HB.out.alloc HB.out.size (.cells #[.int .i64 (N : Nat), .bool dd] 33)).alloc (by have := HB.out.size; simp; omega) (.cells #[.int .i64 (N : Nat), .bool true] 33))
            have O5 := hid ((HO.out.alloc (.cells #[.int .i64 (N : Nat), .bool dd] 33)).alloc (.cells #[.int .i64 (N : Nat), .bool true] 33))
            have S5 := hid (src_pc (w := wr.alloc (.cells #[.int .i64 (N : Nat), .bool dd] 33)) (N : Nat) true 33)
            obtain ⟨b1, o1, he1, _, c1⟩ := HP.out.at' (by omega)
            have S6 := S5
            rw [World.size_alloc] at S6
            subst he1
            obtain ⟨p0, p1⟩ := c1 j hlt
            rw [hx] at p0 p1 hdn
            simp only at p0 p1 hdn
            have HDN := hid hdn
            clear c1 hx hdn
            go_wp2_with (at_builtin; refine wpList_append_src rfl _ _ 26 rfl wq.heap.size 33 i1 _ 2 16 Tryd.underlying26 hi1 hy0 hy1 hy2 rfl (by omega) _ j (pcv (Sp.decd (ps.take j))) rfl O5.out _ 1 1 [.int .i64 (N : Nat), .bool true] rfl (by first | exact S5.out | exact S6.out) (by unfold maxLen; omega) (by omega) B5.out.size ?_; intro v6 w6 ho6 hg6 ha6; have O6 := hid ho6; have B6 := hid (B5.out.grown hg6 B5.out.size (fun k hk => (O5.out.lt k hk).1)); have P6 := hid (P5.out.grown hg6 HN.out); have Z6 := hid hg6.size; have A6 := hid ha6; clear ho6 hg6 ha6)
            have O7 := hid (show w6.ownsRow wq.heap.size 33 2 v6 (j + 1) (pcv (Sp.decd (ps.take (j + 1)))) from by
              rw [HDN.out, ← pcv_snoc]
              exact O6.out)
            have Z7 := hid (show w4.heap.size ≤ w6.heap.size by have h := Z6.out; have h' := HZ.out; simp at h; omega)
            have N7 : Hid (∀ ad, some (⟨b1, o1, none⟩ : Addr) = some ad → some ad.block ≠ v6.ownBlock) := fun ad e h => by
              rcases A6.out with h' | h'
              · exact HN.out ad e (h.trans h')
              · have h1 := (LW.out ad e).2
                have h2 := HZ.out
                rw [h'] at h
                have h3 := Option.some.inj h
                simp at h3
                omega
            clear O6 Z6 A6 S5 S6 O5 P5 B5 HO HB HP HN
            go_wp2_with fail
            go_roundg (pm - (j + 1))
            case measure => omega
            case rel => exact ⟨j + 1, rfl, by omega, by go_num, O7, Z7, B6, P6, N7⟩
          · have hjm : j = pm := by omega
            have k5 : ¬ (j : Int) < pm := by omega
            have o8 := HO.out
            rw [hjm, List.take_of_length_le (by rw [HPM.out]; exact Nat.le_refl _)] at o8
            have O8 := hid o8
            clear o8
            have BA := hid (HB.out.alloc HB.out.size (.cells #[.int .i64 1, .bool true] 33))
            clear hjm HO HN HP HZ LW P4 O4 B4
            go_wp2_with (at_builtin; refine wpList_append_src rfl _ _ 26 rfl wq.heap.size 33 i1 _ 2 16 Tryd.underlying26 hi1 hy0 hy1 hy2 rfl (by omega) _ pm (pcv (Sp.decd ps)) rfl (O8.out.alloc (.cells #[.int .i64 1, .bool true] 33)) (some ⟨wr.heap.size, 0, none⟩) 1 1 [.int .i64 1, .bool true] rfl (src_pc 1 true 33) (by unfold maxLen; omega) (by omega) BA.out.size ?_; intro v9 w9 ho9 hg9 ha9; have O9 := hid ho9; have B9 := hid (BA.out.grown hg9 BA.out.size (fun k hk => (O8.out.lt k hk).1)); clear ho9 hg9 ha9)
            have T9 := hid (HT.out.below B9.out)
            have Y9 := hid (HY.out.below B9.out)
            have E9 := hid (HE.out.below B9.out (Nat.le_refl _))
            clear O8 HB BA
            refine (split_calls kind T9.out Y9.out fin (by omega) E9.out).mono ?_
            rw [HQS.out]
            rintro e w10 ⟨v10, rfl, o10, b10⟩
            obtain ⟨a10, c10, rfl, p10⟩ := Pc.ofOwn o10
            rw [HQM.out] at p10 ⊢
            have Q10 := hid p10
            have O10 := hid (own_below O9.out b10)
            have B10 := hid (B9.out.trans (b10.mono B9.out.size))
            clear o10 b10 p10 O9 B9 T9 Y9 E9
            go_wp2_with (at_builtin; first
              | (refine wpList_append_src rfl _ _ 26 rfl wq.heap.size 33 i1 _ 2 16 Tryd.underlying26 hi1 hy0 hy1 hy2 rfl (by omega) _ (pm + 1) _ rfl O10.out a10 qm c10 (pcv qs) rfl Q10.out.src (by unfold maxLen; omega) (by omega) B10.out.size ?_
                 intro v11 w11 ho11 hg11 ha11
                 have O11 := hid ho11
                 have B11 := hid (B10.out.grown hg11 B10.out.size (fun k hk => (O10.out.lt k hk).1))
                 have M11 := hid (own_empty (w := w11) (base := w11.heap.size) (e := 3) (size := 1) w11.heap.size rfl (Nat.le_refl _))
                 have D12 := hid ((Below.refl w11.heap.size w11).alloc (Nat.le_refl _) (.cells #[] 3))
                 have X12 := hid (HX.out.below (B11.out.alloc B11.out.size (.cells #[] 3)))
                 clear ho11 hg11 ha11)
              | (refine wpList_append_src rfl _ _ 23 rfl w11.heap.size 3 i0 _ 1 8 Tryd.underlying23 hi0 hz0 hz1 hz2 rfl (by omega) _ 0 [] rfl M11.out a n c (iv xs) rfl X12.out.src (by unfold maxLen; omega) (by omega) D12.out.size ?_
                 intro v13 w13 ho13 hg13 ha13
                 have M13 := hid ho13
                 have D13 := hid (D12.out.grown hg13 D12.out.size (fun k hk => (M11.out.lt k hk).1))
                 have D14 := hid (D13.out.alloc D13.out.size (.cells #[.int .i64 mark] 3))
                 clear ho13 hg13 ha13)
              | (refine wpList_append_src rfl _ _ 23 rfl w11.heap.size 3 i0 _ 1 8 Tryd.underlying23 hi0 hz0 hz1 hz2 rfl (by omega) _ (0 + n) ([] ++ iv xs) rfl (M13.out.alloc (.cells #[.int .i64 mark] 3)) (some ⟨w13.heap.size, 0, none⟩) 1 1 [.int .i64 mark] rfl (Src.new #[.int .i64 mark] 3 w13.heap.size rfl rfl (by simp [Value.oneCell'])) (by unfold maxLen; omega) (by omega) D14.out.size ?_
                 intro v15 w15 ho15 hg15 ha15
                 have M15 := hid ho15
                 have D15 := hid (D14.out.grown hg15 D14.out.size (fun k hk => (M13.out.lt k hk).1))
                 clear ho15 hg15 ha15))
            have B15 := hid (B11.out.trans (D15.out.mono B11.out.size))
            have O15 := hid (own_below O11.out D15.out)
            have m15 := M15.out
            rw [Nat.zero_add, List.nil_append, show iv xs ++ [Value.int .i64 mark] = iv (xs ++ [mark]) from iv_append xs [mark]] at m15
            obtain ⟨a15, c15, rfl, x15⟩ := Ir.ofOwn m15
            have X15 := hid x15
            have Y15 := hid (HY.out.below B15.out)
            clear m15 x15 O11 B11 M11 M13 M15 D12 D13 D14 D15 X12 O10 B10 Q10
            refine (sjoin_calls X15.out Y15.out (by omega) (by omega)).mono ?_
            rintro e w16 ⟨v16, rfl, o16, b16⟩
            rw [List.append_assoc, List.singleton_append] at o16
            obtain ⟨a16, c16, rfl, x16⟩ := Ir.ofOwn o16
            have X16 := hid x16
            have B16 := hid (B15.out.trans (b16.mono B15.out.size))
            have O16 := hid (own_below O15.out b16)
            clear o16 b16 x16 X15 Y15 B15 O15
            go_wp2_with fail
            refine (fixed13_calls (HE.out.below B16.out (Nat.le_refl _))).mono ?_
            rintro e w17 ⟨rfl, b17⟩
            have B17 := hid (B16.out.trans (b17.mono B16.out.size))
            have X17 := hid (X16.out.below b17)
            have O17 := hid (own_below O16.out b17)
            have T17 := hid (HT.out.below B17.out)
            have E17 := hid (HE.out.below B17.out (Nat.le_refl _))
            clear b17 B16 X16 O16
            go_wp2_with fail
            refine (split_calls kind T17.out X17.out fin (by omega) E17.out).mono ?_
            rw [HMR.out]
            rintro e w18 ⟨v18, rfl, o18, b18⟩
            have hlm : ((Sp.decd ps ++ [(1, true)]) ++ qs).length = pm + 1 + qm := by rw [List.length_append, List.length_append, Sp.decd_len, HPM.out, HQM.out]; rfl
            rw [hlm] at o18
            obtain ⟨a18, c18, rfl, p18⟩ := Pc.ofOwn o18
            have o19 := own_below O17.out b18
            rw [show pcv (Sp.decd ps) ++ [Value.int .i64 1, Value.bool true] ++ pcv qs = pcv ((Sp.decd ps ++ [(1, true)]) ++ qs) from by rw [← pcv_append, ← pcv_append]; rfl] at o19
            obtain ⟨a19, c19, rfl, p19⟩ := Pc.ofOwn o19
            have P18 := hid p18
            have P19 := hid p19
            have B18 := hid (B17.out.trans (b18.mono B17.out.size))
            clear hlm o18 b18 p18 o19 p19 B17 X17 O17 T17 E17
            go_wp2_with fail
            refine (psame_yes P18.out P19.out (by omega)).mono ?_
            rintro e w20 ⟨rfl, b20⟩
            have B20 := hid (B18.out.trans (b20.mono B18.out.size))
            clear b20 B18 P18 P19
            go_wp2_with fail
            go_ret
            exact ⟨rfl, B20.out⟩
end Go.Proofs.YtiheagkgpbkkfaaDoor
