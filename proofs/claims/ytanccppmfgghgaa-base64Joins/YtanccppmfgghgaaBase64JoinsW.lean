/-
  The walk of the law Base64Joins.
-/
import Derived.Test.YtanccppmfgghgaaB6F
namespace Go.Proofs.Ytanccppmfgghgaa
open Go.RowKit
set_option linter.unusedVariables false

theorem Sl.first {w : World} {a : Option Addr} {n cap : Nat} {f : Nat → Int} (h : Sl w a n cap f) (m : Nat) (hm : m ≤ n) : Sl w a m cap f :=
  ⟨Nat.le_trans hm h.le, h.mx, h.bd, fun e => ⟨by have := (h.nil e).1; omega, (h.nil e).2⟩, fun h0 => by
    obtain ⟨b, off, e, hlt, hc⟩ := h.at' (by omega)
    exact ⟨b, off, e, hlt, fun i hi => hc i (by omega)⟩⟩

set_option maxRecDepth 100000 in
set_option maxHeartbeats 3200000 in
theorem base64Joins_calls (a0 : Option Addr) (n0 c0 : Nat) (f0 : Nat → Int) (a1 : Option Addr) (n1 c1 : Nat) (f1 : Nat → Int) (w : World) (h0 : Sl w a0 n0 c0 f0) (h1 : Sl w a1 n1 c1 f1) :
    Calls Try.prog 6 #[.slice a0 n0 c0, .slice a1 n1 c1] w fun e w' => e = .returned (.bool true) ∧ Below w.heap.size w w' := by
  obtain ⟨i0, hi0, hz0, hz1, hz2⟩ := info_parts Try.infoB
  have hc0 := h0.le
  have hx0 := h0.mx
  unfold maxLen at hx0
  by_cases hb0 : 1000 < n0
  · have hb0' : (1000 : Int) < n0 := by omega
    go_enter Try.func6, Try.ntmps6
    go_wp2_with fail
    refine (fixed03_calls _).mono ?_
    rintro e w' ⟨rfl, hb⟩
    go_wp2_with fail
    go_ret
    exact ⟨rfl, hb⟩
  have hb0' : ¬ (1000 : Int) < n0 := by omega
  by_cases hb1 : 1000 < n1
  · have hb1' : (1000 : Int) < n1 := by omega
    go_enter Try.func6, Try.ntmps6
    go_wp2_with fail
    refine (fixed03_calls _).mono ?_
    rintro e w' ⟨rfl, hb⟩
    go_wp2_with fail
    go_ret
    exact ⟨rfl, hb⟩
  have hb1' : ¬ (1000 : Int) < n1 := by omega
  obtain ⟨m, hm⟩ : ∃ m : Nat, m = n0 / 3 * 3 := ⟨_, rfl⟩
  have hq : (n0 : Int).tdiv 3 * 3 = m := by rw [Int.tdiv_eq_ediv_of_nonneg (by omega)]; omega
  have hq2 : (n0 : Int) / 3 * 3 = m := by omega
  have hmn : m ≤ n0 := by omega
  have hm0 : (0 : Int) ≤ m := by omega
  have hm1 : (m : Int) ≤ c0 := by omega
  have hm2 : (m : Int) ≤ n0 := by omega
  have S0 := hid (h0.first m hmn)
  have S1 := hid h1
  have HM := hid hm
  clear h0 h1 hm
  obtain ⟨t, ht⟩ : ∃ t, m + n1 = t := ⟨_, rfl⟩
  have HT := hid ht
  have HE := hid (show str (B6.encF (cat f0 m f1) t) (B6.encN t) = str (B6.encF f0 m) (B6.encN m) ++ str (B6.encF f1 n1) (B6.encN n1) by
    obtain ⟨e1, e2⟩ := B6.enc_cat f0 f1 m n1 (by have := HM.out; omega)
    rw [← ht, e1]
    exact ((St.of (B6.encF_bd (cat_bd S0.out.bd S1.out.bd) _) _).congr (cat_bd (B6.encF_bd S0.out.bd _) (B6.encF_bd S1.out.bd _)) e2).inj ((St.of (B6.encF_bd S0.out.bd _) _).append (St.of (B6.encF_bd S1.out.bd _) _)))
  obtain ⟨T, hT⟩ : ∃ T, str (B6.encF (cat f0 m f1) t) (B6.encN t) = T := ⟨_, rfl⟩
  have hTs : T.size = B6.encN t := by rw [← hT]; exact str_size _ _
  have hN : ((t : Int) + 2) / 3 * 4 = (B6.encN t : Nat) := by unfold B6.encN; omega
  have hNt : ((t : Int) + 2).tdiv 3 * 4 = (B6.encN t : Nat) := by rw [Int.tdiv_eq_ediv_of_nonneg (by omega)]; exact hN
  obtain ⟨N, hNN⟩ : ∃ N, B6.encN t = N := ⟨_, rfl⟩
  rw [hNN] at hTs hN hNt
  have hT2 : t ≤ 2000 := by omega
  rw [hT] at HE
  obtain ⟨X, hX⟩ : ∃ X, str (B6.encF f0 m) (B6.encN m) = X := ⟨_, rfl⟩
  obtain ⟨Y, hY⟩ : ∃ Y, str (B6.encF f1 n1) (B6.encN n1) = Y := ⟨_, rfl⟩
  have hXs : X.size = B6.encN m := by rw [← hX]; exact str_size _ _
  have hYs : Y.size = B6.encN n1 := by rw [← hY]; exact str_size _ _
  have hcat : ¬ 9223372036854775807 < X.size + Y.size := by rw [hXs, hYs]; unfold B6.encN; omega
  rw [hX, hY] at HE
  have HX := hid hX
  have HY := hid hY
  clear hX hY hXs hYs
  have HTT := hid hT
  have HNN := hid hNN
  clear hT ht hNN
  cases a0 with
  | none =>
    obtain ⟨rfl, rfl⟩ := S0.out.nil rfl
    obtain rfl : n0 = 0 := by omega
    obtain rfl : n1 = t := by have := HT.out; omega
    go_enter Try.func6, Try.ntmps6
    go_wp2_with (first
      | (at_builtin; refine wpList_append_sl (f := f0) rfl _ _ 22 rfl w.heap.size 5 i0 Try.underlying22 hi0 hz0 hz1 hz2 (.slice (some ⟨w.heap.size, 0, none⟩) 0 0) 0 rfl (World.ownsRow_lit w #[] 0 (Nat.le_refl _) (by decide) rfl) none 0 0 f0 rfl (S0.out.below ((Below.refl _ _).alloc (Nat.le_refl _) _)) (by omega) (by simp) ?_; intro v1 w1 ho1 hg1; rw [cat_zero] at ho1; have bel1 : Below w.heap.size w w1 := ((Below.refl _ _).alloc (Nat.le_refl _) _).grown hg1 (by simp) (fun k hk => by simp [Value.ownBlock] at hk; omega))
      | (at_builtin; refine wpList_append_sl rfl _ _ 22 rfl w.heap.size 5 i0 Try.underlying22 hi0 hz0 hz1 hz2 v1 _ _ rfl ho1 a1 n1 c1 f1 rfl (S1.out.below bel1) (by omega) bel1.size ?_))
    intro v2 w2 ho2 hg2
    have bel2 : Below w.heap.size w w2 := bel1.grown hg2 bel1.size (fun k hk => (ho1.lt k hk).1)
    obtain ⟨a2, c2, hv, hsl2⟩ := Sl.own ho2 (cat_bd S0.out.bd S1.out.bd)
    subst hv
    (try rw [Nat.zero_add] at hsl2); (try rw [Nat.zero_add]); (try rw [HT.out] at hsl2); (try rw [HT.out])
    have B2 := hid bel2
    have SL2 := hid hsl2
    have R0 := hid (S0.out.below bel2)
    have R1 := hid (S1.out.below bel2)
    clear bel2 hsl2 ho2 hg2 ho1 hg1 bel1
    go_wp2_with fail
    refine (fixed03_calls _).mono ?_
    rintro e w3 ⟨rfl, hb3⟩
    have B3 := hid (B2.out.trans (hb3.mono B2.out.size))
    have SL3 := hid (SL2.out.below hb3)
    have R03 := hid (R0.out.below hb3)
    have R13 := hid (R1.out.below hb3)
    clear hb3 B2 SL2 R0 R1
    go_wp2_with fail
    refine (b6encode_calls _ _ _ _ _ (by omega) SL3.out).mono ?_
    rintro e w4 ⟨rfl, hb4⟩
    rw [HTT.out]
    have B4 := hid (B3.out.trans (hb4.mono B3.out.size))
    have SL4 := hid (SL3.out.below hb4)
    have R04 := hid (R03.out.below hb4)
    have R14 := hid (R13.out.below hb4)
    clear hb4 B3 SL3 R03 R13
    go_wp2_with fail
    refine (b6encode_calls _ _ _ _ _ (by omega) R04.out).mono ?_
    rintro e w5 ⟨rfl, hb5⟩
    rw [HX.out]
    have B5 := hid (B4.out.trans (hb5.mono B4.out.size))
    have SL5 := hid (SL4.out.below hb5)
    have R15 := hid (R14.out.below hb5)
    clear hb5 B4 SL4 R04 R14
    go_wp2_with fail
    refine (b6encode_calls _ _ _ _ _ (by omega) R15.out).mono ?_
    rintro e w6 ⟨rfl, hb6⟩
    rw [HY.out]
    have B6' := hid (B5.out.trans (hb6.mono B5.out.size))
    have SL6 := hid (SL5.out.below hb6)
    clear hb6 B5 SL5 R15
    have hEE : (T.toList == (X ++ Y).toList) = true := by rw [← HE.out]; exact beq_self_eq_true _
    go_wp2_with fail
    refine (b6encode_calls _ _ _ _ _ (by omega) SL6.out).mono ?_
    rintro e w7 ⟨rfl, hb7⟩
    rw [HTT.out]
    have B7 := hid (B6'.out.trans (hb7.mono B6'.out.size))
    clear hb7 B6' SL6
    go_wp2_with fail
    go_ret
    exact ⟨rfl, B7.out⟩
  | some ad =>
    go_enter Try.func6, Try.ntmps6
    go_wp2_with (first
      | (at_builtin; refine wpList_append_sl (f := f0) rfl _ _ 22 rfl w.heap.size 5 i0 Try.underlying22 hi0 hz0 hz1 hz2 (.slice (some ⟨w.heap.size, 0, none⟩) 0 0) 0 rfl (World.ownsRow_lit w #[] 0 (Nat.le_refl _) (by decide) rfl) (some ad) m c0 f0 rfl (S0.out.below ((Below.refl _ _).alloc (Nat.le_refl _) _)) (by omega) (by simp) ?_; intro v1 w1 ho1 hg1; rw [cat_zero] at ho1; have bel1 : Below w.heap.size w w1 := ((Below.refl _ _).alloc (Nat.le_refl _) _).grown hg1 (by simp) (fun k hk => by simp [Value.ownBlock] at hk; omega))
      | (at_builtin; refine wpList_append_sl rfl _ _ 22 rfl w.heap.size 5 i0 Try.underlying22 hi0 hz0 hz1 hz2 v1 _ _ rfl ho1 a1 n1 c1 f1 rfl (S1.out.below bel1) (by omega) bel1.size ?_))
    intro v2 w2 ho2 hg2
    have bel2 : Below w.heap.size w w2 := bel1.grown hg2 bel1.size (fun k hk => (ho1.lt k hk).1)
    obtain ⟨a2, c2, hv, hsl2⟩ := Sl.own ho2 (cat_bd S0.out.bd S1.out.bd)
    subst hv
    (try rw [Nat.zero_add] at hsl2); (try rw [Nat.zero_add]); (try rw [HT.out] at hsl2); (try rw [HT.out])
    have B2 := hid bel2
    have SL2 := hid hsl2
    have R0 := hid (S0.out.below bel2)
    have R1 := hid (S1.out.below bel2)
    clear bel2 hsl2 ho2 hg2 ho1 hg1 bel1
    go_wp2_with fail
    refine (fixed03_calls _).mono ?_
    rintro e w3 ⟨rfl, hb3⟩
    have B3 := hid (B2.out.trans (hb3.mono B2.out.size))
    have SL3 := hid (SL2.out.below hb3)
    have R03 := hid (R0.out.below hb3)
    have R13 := hid (R1.out.below hb3)
    clear hb3 B2 SL2 R0 R1
    go_wp2_with fail
    refine (b6encode_calls _ _ _ _ _ (by omega) SL3.out).mono ?_
    rintro e w4 ⟨rfl, hb4⟩
    rw [HTT.out]
    have B4 := hid (B3.out.trans (hb4.mono B3.out.size))
    have SL4 := hid (SL3.out.below hb4)
    have R04 := hid (R03.out.below hb4)
    have R14 := hid (R13.out.below hb4)
    clear hb4 B3 SL3 R03 R13
    go_wp2_with fail
    refine (b6encode_calls _ _ _ _ _ (by omega) R04.out).mono ?_
    rintro e w5 ⟨rfl, hb5⟩
    rw [HX.out]
    have B5 := hid (B4.out.trans (hb5.mono B4.out.size))
    have SL5 := hid (SL4.out.below hb5)
    have R15 := hid (R14.out.below hb5)
    clear hb5 B4 SL4 R04 R14
    go_wp2_with fail
    refine (b6encode_calls _ _ _ _ _ (by omega) R15.out).mono ?_
    rintro e w6 ⟨rfl, hb6⟩
    rw [HY.out]
    have B6' := hid (B5.out.trans (hb6.mono B5.out.size))
    have SL6 := hid (SL5.out.below hb6)
    clear hb6 B5 SL5 R15
    have hEE : (T.toList == (X ++ Y).toList) = true := by rw [← HE.out]; exact beq_self_eq_true _
    go_wp2_with fail
    refine (b6encode_calls _ _ _ _ _ (by omega) SL6.out).mono ?_
    rintro e w7 ⟨rfl, hb7⟩
    rw [HTT.out]
    have B7 := hid (B6'.out.trans (hb7.mono B6'.out.size))
    clear hb7 B6' SL6
    go_wp2_with fail
    go_ret
    exact ⟨rfl, B7.out⟩
end Go.Proofs.Ytanccppmfgghgaa
