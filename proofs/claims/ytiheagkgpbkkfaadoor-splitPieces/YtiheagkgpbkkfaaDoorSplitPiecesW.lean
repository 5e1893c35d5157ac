/-
  Stage 13's law SplitPieces, walked.
-/
import Derived.Test.YtiheagkgpbkkfaaDoorSpFx
namespace Go.Proofs.YtiheagkgpbkkfaaDoor
open Go.RowKit
set_option linter.unusedVariables false
open Pr (it)
set_option maxRecDepth 100000 in
set_option maxHeartbeats 3200000 in
theorem splitPieces_calls {w : World} {ta a : Option Addr} {tn tc n c : Nat} {L H C : Nat → Int} {xs : Pr.Row} (kind : Int) (T : Rs w ta tn tc L H C) (X : Ir w a n c xs) (fin : Bool) (hE : Ends w) :
    Calls Tryd.prog 3 #[.int .i64 kind, .slice ta tn tc, .slice a n c, .bool fin] w fun e w' => e = .returned (.bool true) ∧ Below w.heap.size w w' := by
  obtain ⟨i0, hi0, hz0, hz1, hz2⟩ := info_parts Tryd.infoIn
  have HT := hid T
  have HX := hid X
  have HL := hid X.len
  have HE := hid hE
  have h1 := Nat.le_trans T.le T.mx
  have h2 := Nat.le_trans X.le X.mx
  have O0 := hid (own_empty (w := w) (base := w.heap.size) (e := 3) (size := 1) w.heap.size rfl (Nat.le_refl _))
  have b0 := (Below.refl w.heap.size w).alloc (Nat.le_refl _) (.cells #[] 3)
  have B0 := hid b0
  have X0 := hid (X.below b0)
  have hlen := Sp.cutL_len (Cl.of_rg L H C tn) (Cl.may L H C tn) kind fin xs
  rw [X.len] at hlen
  obtain ⟨ps, hps⟩ : ∃ ps, Sp.cutL (Cl.of L H C tn) (Cl.may L H C tn) kind fin xs = ps := ⟨_, rfl⟩
  rw [hps] at hlen
  have HPS := hid hps
  obtain ⟨D, hD⟩ : ∃ D, Sp.dsum (Sp.cutL (Cl.of L H C tn) (Cl.may L H C tn) kind false xs) = D := ⟨_, rfl⟩
  have HD := hid hD
  clear T X hE b0 hps hD
  go_enter Tryd.func3, Tryd.ntmps3
  go_wp2_with fail
  refine (pgreat_calls h1 h2).mono ?_
  rintro e wq ⟨rfl, rfl⟩
  cases hg : greatP tn n with
  | true =>
    clear hg
    go_wp2_with fail
    refine (fixed13_calls HE.out).mono ?_
    rintro e w1 ⟨rfl, b1⟩
    have HB1 := hid b1
    clear b1
    go_wp2_with fail
    go_ret
    exact ⟨rfl, HB1.out⟩
  | false =>
    have hs : n ≤ 120 := by
      have : ¬ (80 < tn ∨ 120 < n) := of_decide_eq_false hg
      omega
    clear hg h1 h2
    go_wp2_with (at_builtin; refine wpList_append_src rfl _ _ 23 rfl wq.heap.size 3 i0 _ 1 8 Tryd.underlying23 hi0 hz0 hz1 hz2 rfl (by omega) _ 0 [] rfl O0.out a n c (iv xs) rfl X0.out.src (by unfold maxLen; omega) (by omega) B0.out.size ?_; intro v4 w4 ho4 hg4 ha4; have O4 := hid ho4; have B4 := hid (B0.out.grown hg4 B0.out.size (fun k hk => (O0.out.lt k hk).1)); clear ho4 hg4 ha4)
    have o4 := O4.out
    rw [Nat.zero_add, List.nil_append] at o4
    obtain ⟨a4, c4, rfl, p4⟩ := Ir.ofOwn o4
    have X4 := hid p4
    have T4 := hid (HT.out.below B4.out)
    have E4 := hid (HE.out.below B4.out (Nat.le_refl _))
    clear o4 p4 O4 O0 B0 X0
    refine (split_calls kind T4.out X4.out fin (by omega) E4.out).mono ?_
    rw [HPS.out]
    rintro e w5 ⟨v5, rfl, o5, b5⟩
    obtain ⟨a5, c5, rfl, p5⟩ := Pc.ofOwn o5
    have P5 := hid p5
    have B5 := hid (B4.out.trans (b5.mono B4.out.size))
    have X5 := hid (X4.out.below b5)
    have Y5 := hid (HX.out.below B5.out)
    clear o5 p5 b5 X4 T4 E4 B4
    go_wp2_with fail
    go_loopg [26] n (fun r iv wr => ∃ j d : Nat, r = n - j ∧ j ≤ n ∧ iv = .int .i64 (j : Int) ∧ wr = w5.drewN d)
    case atStart => exact ⟨0, 0, rfl, by omega, rfl, rfl⟩
    case round =>
      obtain ⟨j, d, rfl, hj, rfl, rfl⟩ := hrel
      by_cases hlt : j < n
      · have k1 : (j : Int) < n := by omega
        have k0 : (0 : Int) ≤ j := by omega
        have e2 : IntKind.i64.wrap ((j : Int) + 1) = j + 1 := i64_in (by omega) (by omega)
        obtain ⟨b1, o1, rfl, _, c1⟩ := X5.out.at' (by omega)
        obtain ⟨b2, o2, rfl, _, c2⟩ := Y5.out.at' (by omega)
        have q1 := c1 j hlt
        have q2 := c2 j hlt
        obtain ⟨x, hx⟩ : ∃ x, it xs j = x := ⟨_, rfl⟩
        rw [hx] at q1 q2
        clear c1 c2 hx
        go_wp2_with fail
        go_quiet (fail)
        go_wp2_with fail
        go_roundg (n - (j + 1))
        case measure => omega
        case rel => exact ⟨j + 1, d + nq, rfl, by omega, by go_num, rfl⟩
      · have hjn : j = n := by omega
        have k1 : ¬ (j : Int) < n := by omega
        have bd := below_drewN (Below.refl w5.heap.size w5) d
        have P6 := hid (P5.out.below bd)
        have B6 := hid (B5.out.trans (bd.mono B5.out.size))
        obtain ⟨W, hW⟩ : ∃ W, w5.drewN d = W := ⟨_, rfl⟩
        rw [hW] at P6 B6
        rw [hW]
        have E6 := hid (HE.out.below B6.out (Nat.le_refl _))
        clear bd hjn hW P5 B5 X5 Y5
        go_wp2_with fail
        refine (fixed13_calls E6.out).mono ?_
        rintro e w7 ⟨rfl, b7⟩
        have P7 := hid (P6.out.below b7)
        have B7 := hid (B6.out.trans (b7.mono B6.out.size))
        have T7 := hid (HT.out.below B7.out)
        have X7 := hid (HX.out.below B7.out)
        clear b7 P6 B6 E6
        go_wp2_with fail
        refine (rsplit_calls kind T7.out X7.out fin (by omega)).mono ?_
        rw [HPS.out]
        rintro e w8 ⟨v8, rfl, o8, b8⟩
        obtain ⟨a8, c8, rfl, p8⟩ := Pc.ofOwn o8
        have P8 := hid (P7.out.below b8)
        have Q8 := hid p8
        have B8 := hid (B7.out.trans (b8.mono B7.out.size))
        clear o8 p8 b8 P7 B7 T7 X7
        go_wp2_with fail
        refine (psame_yes P8.out Q8.out (by omega)).mono ?_
        rintro e w9 ⟨rfl, b9⟩
        have B9 := hid (B8.out.trans (b9.mono B8.out.size))
        have T9 := hid (HT.out.below B9.out)
        have X9 := hid (HX.out.below B9.out)
        have E9 := hid (HE.out.below B9.out (Nat.le_refl _))
        clear b9 P8 Q8 B8
        go_wp2_with fail
        refine (sdecided_calls kind T9.out X9.out (by omega) E9.out).mono ?_
        rw [HD.out]
        rintro e w10 ⟨rfl, b10⟩
        have B10 := hid (B9.out.trans (b10.mono B9.out.size))
        have T10 := hid (HT.out.below B10.out)
        have X10 := hid (HX.out.below B10.out)
        clear b10 T9 X9 E9 B9
        go_wp2_with fail
        refine (rdecided_calls kind T10.out X10.out (by omega)).mono ?_
        rw [HD.out]
        rintro e w11 ⟨rfl, b11⟩
        have B11 := hid (B10.out.trans (b11.mono B10.out.size))
        clear b11 T10 X10 B10
        go_wp2_with fail
        go_ret
        exact ⟨rfl, B11.out⟩
end Go.Proofs.YtiheagkgpbkkfaaDoor
