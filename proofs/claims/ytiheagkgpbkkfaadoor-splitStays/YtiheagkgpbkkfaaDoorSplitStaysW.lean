/-
  Stage 13's law SplitStays, walked.
-/
import Derived.Test.YtiheagkgpbkkfaaDoorSpFx
namespace Go.Proofs.YtiheagkgpbkkfaaDoor
open Go.RowKit
set_option linter.unusedVariables false
open Pr (it)
namespace Sp
theorem cutL_stays {cl : Int → Int} (hr : ∀ p, 0 ≤ cl p ∧ cl p ≤ 4) (may : Bool) (kind : Int) (fin : Bool) (xs ys : List Int) (i : Nat) (p : Nat × Bool) (h : (cutL cl may kind false xs)[i]? = some p) (hp : p.2 = true) : (cutL cl may kind fin (xs ++ ys))[i]? = some p := by
  unfold cutL at h ⊢
  by_cases hk : 0 ≤ kind ∧ kind ≤ 3 ∧ may = true
  · rw [if_pos hk] at h ⊢
    exact sp_stays (Xk_cut hr (by omega)) fin ys _ xs (Nat.le_refl _) i p h hp
  · rw [if_neg hk] at h
    simp at h
theorem cutL_dsum {cl : Int → Int} (hr : ∀ p, 0 ≤ cl p ∧ cl p ≤ 4) (may : Bool) (kind : Int) (xs ys : List Int) : dsum (cutL cl may kind false xs) ≤ dsum (cutL cl may kind false (xs ++ ys)) :=
  dsum_le _ _ (cutL_stays hr may kind false xs ys)
end Sp
set_option maxRecDepth 100000 in
set_option maxHeartbeats 6400000 in
theorem splitStays_calls {w : World} {ta a b : Option Addr} {tn tc n c m d : Nat} {L H C : Nat → Int} {xs ys : Pr.Row} (kind : Int) (T : Rs w ta tn tc L H C) (X : Ir w a n c xs) (Y : Ir w b m d ys) (fin : Bool) (hE : Ends w) :
    Calls Tryd.prog 4 #[.int .i64 kind, .slice ta tn tc, .slice a n c, .slice b m d, .bool fin] w fun e w' => e = .returned (.bool true) ∧ Below w.heap.size w w' := by
  have HT := hid T
  have HX := hid X
  have HY := hid Y
  have HL := hid X.len
  have HLY := hid Y.len
  have HE := hid hE
  have h1 := Nat.le_trans T.le T.mx
  have h2 := Nat.le_trans X.le X.mx
  have h3 := Nat.le_trans Y.le Y.mx
  have h2' := h2
  unfold maxLen at h2' h3
  clear T X Y hE
  have HFix := hid (fun (w1 : World) (b : Below w.heap.size w w1) => (fixed13_calls (HE.out.below b (Nat.le_refl _))).mono (fun e w' h => (⟨h.1, b.trans (h.2.mono b.size)⟩ : e = .returned (.bool true) ∧ Below w.heap.size w w')))
  go_enter Tryd.func4, Tryd.ntmps4
  go_wp2_with fail
  refine (pgreat_calls h1 h2).mono ?_
  rintro e wq ⟨rfl, rfl⟩
  cases hg : greatP tn n with
  | true =>
    clear hg
    go_wp2_with fail
    refine (HFix.out _ (Below.refl _ _)).mono ?_
    rintro e w1 ⟨rfl, b1⟩
    have HB1 := hid b1
    clear b1
    go_wp2_with fail
    go_ret
    exact ⟨rfl, HB1.out⟩
  | false =>
    clear hg h1 h2
    by_cases hn60 : 60 < n
    · have k1 : (60 : Int) < n := by omega
      go_wp2_with fail
      refine (HFix.out _ (Below.refl _ _)).mono ?_
      rintro e w1 ⟨rfl, b1⟩
      have HB1 := hid b1
      clear b1
      go_wp2_with fail
      go_ret
      exact ⟨rfl, HB1.out⟩
    have k1 : ¬ (60 : Int) < n := by omega
    by_cases hm60 : 60 < m
    · have k2 : (60 : Int) < m := by omega
      go_wp2_with fail
      refine (HFix.out _ (Below.refl _ _)).mono ?_
      rintro e w1 ⟨rfl, b1⟩
      have HB1 := hid b1
      clear b1
      go_wp2_with fail
      go_ret
      exact ⟨rfl, HB1.out⟩
    have k2 : ¬ (60 : Int) < m := by omega
    have hpl := Sp.cutL_len (Cl.of_rg L H C tn) (Cl.may L H C tn) kind false xs
    have hql := Sp.cutL_len (Cl.of_rg L H C tn) (Cl.may L H C tn) kind fin (xs ++ ys)
    have hst := Sp.cutL_stays (Cl.of_rg L H C tn) (Cl.may L H C tn) kind fin xs ys
    have hds := Sp.cutL_dsum (Cl.of_rg L H C tn) (Cl.may L H C tn) kind xs ys
    rw [HL.out] at hpl
    rw [List.length_append, HL.out, HLY.out] at hql
    obtain ⟨ps, hps⟩ : ∃ ps, Sp.cutL (Cl.of L H C tn) (Cl.may L H C tn) kind false xs = ps := ⟨_, rfl⟩
    obtain ⟨qs, hqs⟩ : ∃ qs, Sp.cutL (Cl.of L H C tn) (Cl.may L H C tn) kind fin (xs ++ ys) = qs := ⟨_, rfl⟩
    obtain ⟨rs, hrs⟩ : ∃ rs, Sp.cutL (Cl.of L H C tn) (Cl.may L H C tn) kind false (xs ++ ys) = rs := ⟨_, rfl⟩
    rw [hps] at hpl hst hds
    rw [hqs] at hql hst
    rw [hrs] at hds
    have HPS := hid hps
    have HQS := hid hqs
    have HRS := hid hrs
    have HST := hid hst
    have HDS := hid hds
    obtain ⟨pm, hpm⟩ : ∃ m, ps.length = m := ⟨_, rfl⟩
    obtain ⟨qm, hqm⟩ : ∃ m, qs.length = m := ⟨_, rfl⟩
    rw [hpm] at hpl
    rw [hqm] at hql
    have HPM := hid hpm
    have HQM := hid hqm
    clear hps hqs hrs hst hds hpm hqm
    go_wp2_with fail
    refine (sjoin_calls HX.out HY.out (by omega) (by omega)).mono ?_
    rintro e w2 ⟨v2, rfl, o2, b2⟩
    obtain ⟨a2, c2, rfl, x2⟩ := Ir.ofOwn o2
    have A2 := hid x2
    have B2 := hid b2
    have T2 := hid (HT.out.below b2)
    have E2 := hid (HE.out.below b2 (Nat.le_refl _))
    clear o2 b2 x2
    go_wp2_with fail
    refine (split_calls kind T2.out A2.out fin (by omega) E2.out).mono ?_
    rw [HQS.out]
    rintro e w3 ⟨v3, rfl, o3, b3⟩
    obtain ⟨a3, c3, rfl, p3⟩ := Pc.ofOwn o3
    rw [HQM.out] at p3 ⊢
    have Q3 := hid p3
    have B3 := hid (B2.out.trans (b3.mono B2.out.size))
    have A3 := hid (A2.out.below b3)
    have T3 := hid (HT.out.below B3.out)
    have X3 := hid (HX.out.below B3.out)
    have E3 := hid (HE.out.below B3.out (Nat.le_refl _))
    clear o3 b3 p3 A2 T2 E2 B2
    go_wp2_with fail
    refine (split_calls kind T3.out X3.out false (by omega) E3.out).mono ?_
    rw [HPS.out]
    rintro e w4 ⟨v4, rfl, o4, b4⟩
    obtain ⟨a4, c4, rfl, p4⟩ := Pc.ofOwn o4
    rw [HPM.out] at p4 ⊢
    have P4 := hid p4
    have Q4 := hid (Q3.out.below b4)
    have A4 := hid (A3.out.below b4)
    have B4 := hid (B3.out.trans (b4.mono B3.out.size))
    clear o4 b4 p4 A3 T3 X3 E3 B3 Q3
    go_wp2_with fail
    go_loopg [42] pm (fun r iv wr => ∃ j : Nat, r = pm - j ∧ j ≤ pm ∧ iv = .int .i64 (j : Int) ∧ Hid (Below w4.heap.size w4 wr))
    case atStart => exact ⟨0, rfl, by omega, rfl, hid (Below.refl _ _)⟩
    case round =>
      obtain ⟨j, rfl, hj, rfl, HB⟩ := hrel
      by_cases hlt : j < pm
      · have k3 : (j : Int) < pm := by omega
        have k0 : (0 : Int) ≤ j := by omega
        have e2 : IntKind.i64.wrap ((j : Int) + 1) = j + 1 := i64_in (by omega) (by omega)
        obtain ⟨⟨N, dd⟩, hx⟩ : ∃ x, pt ps j = x := ⟨_, rfl⟩
        have B5 := hid (HB.out.alloc HB.out.size (.cells #[.int .i64 (N : Nat), .bool dd] 33))
        obtain ⟨b1, o1, rfl, _, c1⟩ := (P4.out.below HB.out).at' (by omega)
        obtain ⟨p0, p1⟩ := c1 j hlt
        rw [hx] at p0 p1
        simp only at p0 p1
        have z0 : (wr.alloc (.cells #[.int .i64 (N : Nat), .bool dd] 33)).cell? ⟨wr.heap.size, 0, none⟩ = some (.int .i64 (N : Nat)) := by rw [World.cell?_alloc_at _ _ _ _ rfl]; rfl
        have z1 : (wr.alloc (.cells #[.int .i64 (N : Nat), .bool dd] 33)).cell? ⟨wr.heap.size, 1, none⟩ = some (.bool dd) := by rw [World.cell?_alloc_at _ _ _ _ rfl]; rfl
        have hne := Tryd.neqPc (N : Int) dd
        cases dd with
        | true =>
          have hq := HST.out j (N, true) (by rw [← hx]; exact pt_get (by rw [HPM.out]; exact hlt)) rfl
          have hjq : j < qm := by rw [← HQM.out]; exact (List.getElem?_eq_some_iff.1 hq).1
          have hqt : pt qs j = (N, true) := by
            have := pt_get (ps := qs) (i := j) (by rw [HQM.out]; exact hjq)
            rw [hq] at this
            exact (Option.some.inj this).symm
          have k4 : ¬ (qm : Int) ≤ j := by omega
          have k5 : (j : Int) < qm := by omega
          obtain ⟨b6, o6, rfl, _, c6⟩ := (Q4.out.below B5.out).at' (by omega)
          obtain ⟨q0, q1⟩ := c6 j hjq
          rw [hqt] at q0 q1
          simp only at q0 q1
          clear c1 c6 hx hq hqt
          go_wp2_with fail
          go_quiet (fail)
          go_wp2_with fail
          go_roundg (pm - (j + 1))
          case measure => omega
          case rel => exact ⟨j + 1, rfl, by omega, by go_num, hid (below_drewN B5.out nq)⟩
        | false =>
          clear c1 hx
          go_wp2_with fail
          go_quiet (fail)
          go_wp2_with fail
          go_roundg (pm - (j + 1))
          case measure => omega
          case rel => exact ⟨j + 1, rfl, by omega, by go_num, hid (below_drewN B5.out nq)⟩
      · have k3 : ¬ (j : Int) < pm := by omega
        have B6 := hid (B4.out.trans (HB.out.mono B4.out.size))
        have A6 := hid (A4.out.below HB.out)
        clear HB B4 A4 Q4 P4
        go_wp2_with fail
        refine (fixed13_calls (HE.out.below B6.out (Nat.le_refl _))).mono ?_
        rintro e w7 ⟨rfl, b7⟩
        have B7 := hid (B6.out.trans (b7.mono B6.out.size))
        have A7 := hid (A6.out.below b7)
        have T7 := hid (HT.out.below B7.out)
        have X7 := hid (HX.out.below B7.out)
        have E7 := hid (HE.out.below B7.out (Nat.le_refl _))
        clear b7 B6 A6
        go_wp2_with fail
        refine (sdecided_calls kind T7.out X7.out (by omega) E7.out).mono ?_
        rw [HPS.out]
        rintro e w8 ⟨rfl, b8⟩
        have B8 := hid (B7.out.trans (b8.mono B7.out.size))
        have A8 := hid (A7.out.below b8)
        have T8 := hid (HT.out.below B8.out)
        have E8 := hid (HE.out.below B8.out (Nat.le_refl _))
        clear b8 B7 A7 T7 X7 E7
        go_wp2_with fail
        refine (sdecided_calls kind T8.out A8.out (by omega) E8.out).mono ?_
        rw [HRS.out]
        rintro e w9 ⟨rfl, b9⟩
        have B9 := hid (B8.out.trans (b9.mono B8.out.size))
        have k9 : (Sp.dsum ps : Int) ≤ Sp.dsum rs := by have := HDS.out; omega
        clear b9 B8 A8 T8 E8
        go_wp2_with fail
        go_ret
        exact ⟨rfl, B9.out⟩
end Go.Proofs.YtiheagkgpbkkfaaDoor
