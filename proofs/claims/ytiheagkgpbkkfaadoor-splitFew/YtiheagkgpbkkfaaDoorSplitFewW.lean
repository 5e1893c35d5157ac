/-
  Stage 13's law SplitFew, walked.
-/
import Derived.Test.YtiheagkgpbkkfaaDoorSpFx
import Derived.Test.YtiheagkgpbkkfaaDoorLotV
namespace Go.Proofs.YtiheagkgpbkkfaaDoor
open Go.RowKit
set_option linter.unusedVariables false
open Pr (it)
namespace Sp
/-- The usual table's classes. -/
theorem usUs : Sc.Us (Cl.of UL UH UC 51) :=
  ⟨Cl.of_rg UL UH UC 51, by decide +kernel, by decide +kernel, by decide +kernel, fun x b h => by
    have hb : b = 114 ∨ b = 118 ∨ b = 108 ∨ b = 82 ∨ b = 86 ∨ b = 76 := by
      unfold Sc.two Sc.eqw at h
      simp only [Bool.or_eq_true, Bool.and_eq_true, beq_iff_eq] at h
      omega
    rcases hb with rfl | rfl | rfl | rfl | rfl | rfl <;> decide +kernel, by decide +kernel, by decide +kernel, by decide +kernel, by decide +kernel⟩
theorem opn_snoc : ∀ (ps : List (Nat × Bool)) (p : Nat × Bool), opn (ps ++ [p]) = opn ps + (if p.2 = true then 0 else 1)
  | [], p => by simp [opn]
  | q :: ps, p => by
    have := opn_snoc ps p
    simp only [List.cons_append, opn] at this ⊢
    omega
theorem opn_len : ∀ ps : List (Nat × Bool), opn ps ≤ ps.length
  | [] => Nat.le_refl _
  | p :: ps => by
    have := opn_len ps
    simp only [opn, List.length_cons]
    split <;> omega
theorem cutL_few (may : Bool) (kind : Int) (xs : List Int) : opn (cutL (Cl.of UL UH UC 51) may kind false xs) ≤ Sc.most (Utf.rest (fn (lastRun xs)) (lastRun xs).length) := by
  unfold cutL
  split
  · rename_i h
    exact sp_few usUs (by omega) xs
  · exact Nat.zero_le _
theorem lastRun_bd (xs : List Int) (i : Nat) : 0 ≤ fn (lastRun xs) i ∧ fn (lastRun xs) i ≤ 255 := by
  have h := run_bd (lastRun xs) i
  have e : run (lastRun xs) = lastRun xs := by unfold run; rw [lastRun_bytes, List.take_of_length_le (Nat.le_refl _)]
  rwa [e] at h
theorem lastRun_len : ∀ xs : List Int, (lastRun xs).length ≤ xs.length
  | [] => Nat.le_refl _
  | x :: l => by
    unfold lastRun
    split
    · exact Nat.le_refl _
    · have := lastRun_len l; simp only [List.length_cons]; omega
end Sp
set_option maxRecDepth 100000 in
set_option maxHeartbeats 3200000 in
theorem splitFew_calls {w : World} {a : Option Addr} {n c : Nat} {xs : Pr.Row} (kind : Int) (X : Ir w a n c xs) (hE : Ends w) :
    Calls Tryd.prog 7 #[.int .i64 kind, .slice a n c] w fun e w' => e = .returned (.bool true) ∧ Below w.heap.size w w' := by
  have HX := hid X
  have HL := hid X.len
  have HE := hid hE
  have h2 := Nat.le_trans X.le X.mx
  unfold maxLen at h2
  clear X hE
  go_enter Tryd.func7, Tryd.ntmps7
  by_cases hbig : 120 < n
  · have k1 : (120 : Int) < n := by omega
    go_wp2_with fail
    refine (fixed13_calls HE.out).mono ?_
    rintro e w1 ⟨rfl, b1⟩
    have HB1 := hid b1
    clear b1
    go_wp2_with fail
    go_ret
    exact ⟨rfl, HB1.out⟩
  · have k1 : ¬ (120 : Int) < n := by omega
    have hlen := Sp.cutL_len (Cl.of_rg UL UH UC 51) (Cl.may UL UH UC 51) kind false xs
    have hfew := Sp.cutL_few (Cl.may UL UH UC 51) kind xs
    rw [HL.out] at hlen
    obtain ⟨ps, hps⟩ : ∃ ps, Sp.cutL (Cl.of UL UH UC 51) (Cl.may UL UH UC 51) kind false xs = ps := ⟨_, rfl⟩
    rw [hps] at hlen hfew
    have HPS := hid hps
    have HF := hid hfew
    obtain ⟨m, hm⟩ : ∃ m, ps.length = m := ⟨_, rfl⟩
    have HM := hid hm
    rw [hm] at hlen
    clear hps hfew hm
    go_wp2_with fail
    refine (usual_calls _).mono ?_
    rintro e w1 ⟨rfl, rfl⟩
    have bu := (Below.refl w.heap.size w).alloc (Nat.le_refl _) (.cells uCells 53)
    have R1 := hid (uRs w 53 w.heap.size rfl)
    have HB1 := hid bu
    obtain ⟨W1, hW1⟩ : ∃ W, w.alloc (.cells uCells 53) = W := ⟨_, rfl⟩
    rw [hW1] at R1 HB1 ⊢
    clear bu hW1
    have X1 := hid (HX.out.below HB1.out)
    have E1 := hid (HE.out.below HB1.out (Nat.le_refl _))
    go_wp2_with fail
    refine (split_calls kind R1.out X1.out false (by omega) E1.out).mono ?_
    rw [HPS.out]
    rintro e w2 ⟨v2, rfl, o2, b2⟩
    obtain ⟨a2, c2, rfl, p2⟩ := Pc.ofOwn o2
    rw [HM.out] at p2 ⊢
    have P2 := hid p2
    have B2 := hid (HB1.out.trans (b2.mono HB1.out.size))
    clear o2 b2 p2 R1 X1 E1 HB1
    go_wp2_with fail
    go_loopg [5, 17] m (fun r ov iv wr => ∃ j : Nat, r = m - j ∧ j ≤ m ∧ ov = .int .i64 (Sp.opn (ps.take j) : Nat) ∧ iv = .int .i64 (j : Int) ∧ Hid (Below w2.heap.size w2 wr))
    case atStart => exact ⟨0, rfl, by omega, rfl, rfl, hid (Below.refl _ _)⟩
    case round =>
      obtain ⟨j, rfl, hj, rfl, rfl, HB⟩ := hrel
      by_cases hlt : j < m
      · have k1 : (j : Int) < m := by omega
        have k0 : (0 : Int) ≤ j := by omega
        have e2 : IntKind.i64.wrap ((j : Int) + 1) = j + 1 := i64_in (by omega) (by omega)
        have hsn := Sp.opn_snoc (ps.take j) (pt ps j)
        rw [← Sp.take_snoc (pt_get (by rw [HM.out]; exact hlt))] at hsn
        have hle := Sp.opn_len (ps.take j)
        rw [List.length_take] at hle
        obtain ⟨b, off, rfl, hbl, hc⟩ := (P2.out.below HB.out).at' (by omega)
        obtain ⟨p0, p1⟩ := hc j hlt
        obtain ⟨⟨N, d⟩, hx⟩ : ∃ x, pt ps j = x := ⟨_, rfl⟩
        rw [hx] at p0 p1 hsn
        simp only at p0 p1 hsn
        obtain ⟨S, hSj⟩ : ∃ S, Sp.opn (ps.take j) = S := ⟨_, rfl⟩
        rw [hSj] at hsn hle
        rw [hSj]
        have HSN := hid hsn
        have B3 := hid (HB.out.alloc HB.out.size (.cells #[.int .i64 (N : Nat), .bool d] 33))
        clear hx hc hSj hsn
        cases d with
        | true =>
          go_wp2_with fail
          go_roundg (m - (j + 1))
          case measure => omega
          case rel => exact ⟨j + 1, rfl, by omega, by rw [HSN.out]; simp, by go_num, B3⟩
        | false =>
          have e3 : IntKind.i64.wrap ((S : Int) + 1) = S + 1 := i64_in (by omega) (by omega)
          go_wp2_with fail
          go_roundg (m - (j + 1))
          case measure => omega
          case rel => exact ⟨j + 1, rfl, by omega, by rw [HSN.out]; simp, by go_num, B3⟩
      · have hjm : ps.take j = ps := List.take_of_length_le (by rw [HM.out]; omega)
        have k1 : ¬ (j : Int) < m := by omega
        have hF := HF.out
        rw [hjm]
        obtain ⟨O, hO⟩ : ∃ O, Sp.opn ps = O := ⟨_, rfl⟩
        rw [hO] at hF ⊢
        obtain ⟨K, hK⟩ : ∃ K, Utf.rest (Sp.fn (Sp.lastRun xs)) (Sp.lastRun xs).length = K := ⟨_, rfl⟩
        rw [hK] at hF
        have HK := hid hK
        have B4 := hid (B2.out.trans (HB.out.mono B2.out.size))
        have E4 := hid (HE.out.below B4.out (Nat.le_refl _))
        clear hjm hO hK HB B2
        go_wp2_with fail
        refine (fixed13_calls E4.out).mono ?_
        rintro e w7 ⟨rfl, b7⟩
        have B7 := hid (B4.out.trans (b7.mono B4.out.size))
        clear b7 B4 E4
        by_cases hO2 : O ≤ 2
        · have q1 : (O : Int) ≤ 4 := by omega
          have q2 : (O : Int) ≤ 2 := by omega
          go_wp2_with fail
          go_ret
          exact ⟨rfl, B7.out⟩
        · have hK0 : ¬ K = 0 := fun e => by rw [e] at hF; exact hO2 hF
          have hO4 : O ≤ 4 := by unfold Sc.most at hF; rw [if_neg hK0] at hF; exact hF
          have q1 : (O : Int) ≤ 4 := by omega
          have q2 : ¬ (O : Int) ≤ 2 := by omega
          have q3 : (0 : Int) < K := by omega
          have X7 := hid (HX.out.below B7.out)
          have hll := Sp.lastRun_len xs
          rw [HL.out] at hll
          have HS := hid (St.of (Sp.lastRun_bd xs) (Sp.lastRun xs).length)
          obtain ⟨s, hs⟩ : ∃ s, str (Sp.fn (Sp.lastRun xs)) (Sp.lastRun xs).length = s := ⟨_, rfl⟩
          have hrr := rrest_calls X7.out (by omega)
          rw [hs] at HS hrr
          have HR := hid hrr
          clear hs hrr
          go_wp2_with fail
          refine HR.out.mono ?_
          rintro e w8 ⟨rfl, b8⟩
          have B8 := hid (B7.out.trans (b8.mono B7.out.size))
          clear b8 B7
          go_wp2_with fail
          refine (refRest_calls _ _ _ _ HS.out (by omega)).mono ?_
          rw [HK.out]
          rintro e w9 ⟨rfl, b9⟩
          have B9 := hid (B8.out.trans (b9.mono B8.out.size))
          clear b9 B8
          go_wp2_with fail
          go_ret
          exact ⟨ret_bool (by simp; omega), B9.out⟩
end Go.Proofs.YtiheagkgpbkkfaaDoor
