/-
  The walk of the law LetterJoins.
-/
import Derived.Test.YtaejoleijmihhaaLeF
namespace Go.Proofs.Ytaejoleijmihhaa
open Go.RowKit
set_option linter.unusedVariables false

set_option maxRecDepth 100000 in
set_option maxHeartbeats 3200000 in
theorem letterJoins_calls (a0 : Option Addr) (n0 c0 : Nat) (f0 : Nat → Int) (a1 : Option Addr) (n1 c1 : Nat) (f1 : Nat → Int) (w : World) (h0 : Sl w a0 n0 c0 f0) (h1 : Sl w a1 n1 c1 f1) :
    Calls Try.prog 7 #[.slice a0 n0 c0, .slice a1 n1 c1] w fun e w' => e = .returned (.bool true) ∧ Below w.heap.size w w' := by
  obtain ⟨i0, hi0, hz0, hz1, hz2⟩ := info_parts Try.info8
  by_cases hb0 : 500 < n0
  · have hb0' : (500 : Int) < n0 := by omega
    go_enter Try.func7, Try.ntmps7
    go_wp2_with fail
    refine (fixed04_calls _).mono ?_
    rintro e w' ⟨rfl, hb⟩
    go_wp2_with fail
    go_ret
    exact ⟨rfl, hb⟩
  have hb0' : ¬ (500 : Int) < n0 := by omega
  by_cases hb1 : 500 < n1
  · have hb1' : (500 : Int) < n1 := by omega
    go_enter Try.func7, Try.ntmps7
    go_wp2_with fail
    refine (fixed04_calls _).mono ?_
    rintro e w' ⟨rfl, hb⟩
    go_wp2_with fail
    go_ret
    exact ⟨rfl, hb⟩
  have hb1' : ¬ (500 : Int) < n1 := by omega
  have S0 := hid h0
  have S1 := hid h1
  clear h0 h1
  have hbd := cat_bd (n := n0) S0.out.bd S1.out.bd
  obtain ⟨F, hF⟩ : ∃ F, Le.wrF (cat f0 n0 f1) (n0 + n1) = F := ⟨_, rfl⟩
  obtain ⟨N, hN⟩ : ∃ N, Le.wrN (cat f0 n0 f1) (n0 + n1) = N := ⟨_, rfl⟩
  obtain ⟨T, hT⟩ : ∃ T, str (Le.wrF (cat f0 n0 f1) (n0 + n1)) (Le.wrN (cat f0 n0 f1) (n0 + n1)) = T := ⟨_, rfl⟩
  obtain ⟨X, hX⟩ : ∃ X, str (Le.wrF f0 n0) (Le.wrN f0 n0) = X := ⟨_, rfl⟩
  obtain ⟨Y, hY⟩ : ∃ Y, str (Le.wrF f1 n1) (Le.wrN f1 n1) = Y := ⟨_, rfl⟩
  have hSX : St X (Le.wrN f0 n0) (Le.wrF f0 n0) := by rw [← hX]; exact St.of (Le.wrF_bd S0.out.bd _) _
  have hSY : St Y (Le.wrN f1 n1) (Le.wrF f1 n1) := by rw [← hY]; exact St.of (Le.wrF_bd S1.out.bd _) _
  have hST : St T N F := by rw [← hT, hF, hN]; exact St.of (by rw [← hF]; exact Le.wrF_bd hbd _) _
  have HE := hid (show T = X ++ Y by
    have q := hSX.append hSY
    rw [← Le.wrN_cat, hN] at q
    exact (hST.congr (cat_bd (Le.wrF_bd S0.out.bd _) (Le.wrF_bd S1.out.bd _)) (fun i hi => by rw [← hF]; exact Le.wrF_cat f0 f1 n0 n1 i (by rw [← Le.wrN_cat, hN]; exact hi))).inj q)
  have hclean : ∀ i, i < N → 32 < F i ∧ F i ≠ 127 := fun i hi => by rw [← hF]; exact Le.wrF_clean hbd _ i (by rw [hN]; exact hi)
  have HC := hid hclean
  have hNb : N ≤ 2000 := by rw [← hN]; have := (Le.wrN_bd hbd (n0 + n1)).2; omega
  have hcat : ¬ 9223372036854775807 < X.size + Y.size := by
    rw [hSX.size, hSY.size]; have a := (Le.wrN_bd S0.out.bd n0).2; have b := (Le.wrN_bd S1.out.bd n1).2; omega
  have hTs := hST.size
  have hget := hST.get
  have HT := hid hT
  have HX := hid hX
  have HY := hid hY
  clear hF hN hT hX hY hSX hSY hST hclean hbd
  go_enter Try.func7, Try.ntmps7
  go_wp2_with (first
    | (at_builtin; refine wpList_append_sl (f := f0) rfl _ _ 28 rfl w.heap.size 5 i0 Try.underlying28 hi0 hz0 hz1 hz2 (.slice (some ⟨w.heap.size, 0, none⟩) 0 0) 0 rfl (World.ownsRow_lit w #[] 0 (Nat.le_refl _) (by decide) rfl) a0 n0 c0 f0 rfl (S0.out.below ((Below.refl _ _).alloc (Nat.le_refl _) _)) (by omega) (by simp) ?_; intro v1 w1 ho1 hg1; rw [cat_zero] at ho1; have bel1 : Below w.heap.size w w1 := ((Below.refl _ _).alloc (Nat.le_refl _) _).grown hg1 (by simp) (fun k hk => by simp [Value.ownBlock] at hk; omega))
    | (at_builtin; refine wpList_append_sl rfl _ _ 28 rfl w.heap.size 5 i0 Try.underlying28 hi0 hz0 hz1 hz2 v1 _ _ rfl ho1 a1 n1 c1 f1 rfl (S1.out.below bel1) (by omega) bel1.size ?_))
  intro v2 w2 ho2 hg2
  have bel2 : Below w.heap.size w w2 := bel1.grown hg2 bel1.size (fun k hk => (ho1.lt k hk).1)
  obtain ⟨a2, c2, hv, hsl2⟩ := Sl.own ho2 (cat_bd S0.out.bd S1.out.bd)
  subst hv
  (try rw [Nat.zero_add] at hsl2); (try rw [Nat.zero_add])
  have B2 := hid bel2
  have SL2 := hid hsl2
  have R0 := hid (S0.out.below bel2)
  have R1 := hid (S1.out.below bel2)
  clear bel2 hsl2 ho2 hg2 ho1 hg1 bel1
  go_wp2_with fail
  refine (lwrite_calls _ _ _ _ _ (by omega) SL2.out).mono ?_
  rintro e w3 ⟨rfl, hb3⟩
  rw [HT.out]
  have B3 := hid (B2.out.trans (hb3.mono B2.out.size))
  have R03 := hid (R0.out.below hb3)
  have R13 := hid (R1.out.below hb3)
  clear hb3 B2 SL2 R0 R1 HT
  go_wp2_with fail
  go_loopg [24] N (fun r iv wr => ∃ i : Nat, i ≤ N ∧ r = N - i ∧ iv = .int .i64 i ∧ w3 = wr)
  case atStart => exact ⟨0, by omega, by omega, rfl, rfl⟩
  case round =>
    obtain ⟨i, hi, rfl, rfl, rfl⟩ := hrel
    by_cases hlt : i < N
    · have q1 : (i : Int) < N := by omega
      have q0 : (0 : Int) ≤ i := by omega
      obtain ⟨p1, p2⟩ := HC.out i hlt
      have p2' : (F i == 127) = false := by simpa using p2
      have p1' : ¬ F i ≤ 32 := by omega
      go_wp2_with fail
      go_roundg (N - (i + 1))
      case measure => omega
      case rel => exact ⟨i + 1, by omega, rfl, by go_num, rfl⟩
    · obtain rfl : i = N := by omega
      have q1 : ¬ (i : Int) < i := by omega
      clear hget
      go_wp2_with fail
      refine (fixed04_calls _).mono ?_
      rintro e w4 ⟨rfl, hb4⟩
      have B4 := hid (B3.out.trans (hb4.mono B3.out.size))
      have R04 := hid (R03.out.below hb4)
      have R14 := hid (R13.out.below hb4)
      clear hb4 B3 R03 R13
      go_wp2_with fail
      refine (lwrite_calls _ _ _ _ _ (by omega) R04.out).mono ?_
      rintro e w5 ⟨rfl, hb5⟩
      rw [HX.out]
      have B5 := hid (B4.out.trans (hb5.mono B4.out.size))
      have R15 := hid (R14.out.below hb5)
      clear hb5 B4 R04 R14
      have hEE : (T.toList == (X ++ Y).toList) = true := by rw [← HE.out]; exact beq_self_eq_true _
      go_wp2_with fail
      refine (lwrite_calls _ _ _ _ _ (by omega) R15.out).mono ?_
      rintro e w6 ⟨rfl, hb6⟩
      rw [HY.out]
      have B6' := hid (B5.out.trans (hb6.mono B5.out.size))
      clear hb6 B5 R15
      go_wp2_with fail
      go_ret
      exact ⟨rfl, B6'.out⟩
end Go.Proofs.Ytaejoleijmihhaa
