/-
  Stage 13's law SplitSums, walked.
-/
import Derived.Test.YtiheagkgpbkkfaaDoorSpFx
namespace Go.Proofs.YtiheagkgpbkkfaaDoor
open Go.RowKit
set_option linter.unusedVariables false
open Pr (it)
namespace Sp
theorem total_snoc : ∀ (ps : List (Nat × Bool)) (p : Nat × Bool), total (ps ++ [p]) = total ps + p.1
  | [], p => by simp [total]
  | q :: ps, p => by
    have := total_snoc ps p
    simp only [List.cons_append, total] at this ⊢
    omega
theorem total_take_le : ∀ (ps : List (Nat × Bool)) (j : Nat), total (ps.take j) ≤ total ps
  | [], j => by simp [total]
  | p :: ps, 0 => by simp [total]
  | p :: ps, j + 1 => by
    have := total_take_le ps j
    rw [List.take_succ_cons]
    unfold total
    omega
theorem cutL_fin {cl : Int → Int} (hr : ∀ p, 0 ≤ cl p ∧ cl p ≤ 4) (may : Bool) (kind : Int) (xs : List Int) : ∀ p ∈ cutL cl may kind true xs, 1 ≤ p.1 ∧ p.2 = true := by
  intro p hp
  unfold cutL at hp
  split at hp
  · rename_i h
    have hX := Xk_cut hr (kind := kind.toNat) (by omega)
    exact ⟨sp_pos hX true _ false xs (Nat.le_refl _) p hp, sp_fin hX _ xs (Nat.le_refl _) p hp⟩
  · cases hp
theorem cutL_sum {cl : Int → Int} (hr : ∀ p, 0 ≤ cl p ∧ cl p ≤ 4) (may : Bool) (kind : Int) (fin : Bool) (xs : List Int) : total (cutL cl may kind fin xs) = if 0 ≤ kind ∧ kind ≤ 3 ∧ may = true then xs.length else 0 := by
  unfold cutL
  split
  · rename_i h
    exact sp_total (Xk_cut hr (by omega)) fin _ false xs (Nat.le_refl _)
  · rfl
/-- So many symbols are bytes all. -/
def pl (xs : List Int) (j : Nat) : Bool := (xs.take j).all isB
theorem pl_next {xs : List Int} {j : Nat} (h : j < xs.length) : pl xs (j + 1) = (pl xs j && isB (it xs j)) := by
  unfold pl
  rw [take_snoc (Pr.it_get h), List.all_append]
  simp
theorem pl_all (xs : List Int) (n : Nat) (h : xs.length = n) : pl xs n = true ↔ ∀ x ∈ xs, isB x = true := by
  unfold pl
  rw [List.take_of_length_le (by omega), List.all_eq_true]
end Sp
set_option maxRecDepth 100000 in
set_option maxHeartbeats 6400000 in
theorem splitSums_calls {w : World} {ta a : Option Addr} {tn tc n c : Nat} {L H C : Nat → Int} {xs : Pr.Row} (kind : Int) (T : Rs w ta tn tc L H C) (X : Ir w a n c xs) (hE : Ends w) :
    Calls Tryd.prog 6 #[.int .i64 kind, .slice ta tn tc, .slice a n c] w fun e w' => e = .returned (.bool true) ∧ Below w.heap.size w w' := by
  have HT := hid T
  have HX := hid X
  have HL := hid X.len
  have HE := hid hE
  have h1 := Nat.le_trans T.le T.mx
  have h2 := Nat.le_trans X.le X.mx
  clear T X hE
  go_enter Tryd.func6, Tryd.ntmps6
  go_wp2_with fail
  refine (pgreat_calls h1 h2).mono ?_
  rintro e wq ⟨rfl, rfl⟩
  cases hg : greatP tn n with
  | true =>
    clear hg
    go_wp2_with fail
    refine (fixed13_calls HE.out).mono ?_
    rintro e w1 ⟨rfl, b1⟩
    have HB1 := hid b1
    clear b1
    go_wp2_with fail
    go_ret
    exact ⟨rfl, HB1.out⟩
  | false =>
    have hs : n ≤ 120 := by
      have : ¬ (80 < tn ∨ 120 < n) := of_decide_eq_false hg
      omega
    clear hg h1 h2
    have hlen := Sp.cutL_len (Cl.of_rg L H C tn) (Cl.may L H C tn) kind true xs
    have hfin := Sp.cutL_fin (Cl.of_rg L H C tn) (Cl.may L H C tn) kind xs
    have hsum := Sp.cutL_sum (Cl.of_rg L H C tn) (Cl.may L H C tn) kind true xs
    rw [HL.out] at hlen hsum
    obtain ⟨ps, hps⟩ : ∃ ps, Sp.cutL (Cl.of L H C tn) (Cl.may L H C tn) kind true xs = ps := ⟨_, rfl⟩
    rw [hps] at hlen hfin hsum
    have HPS := hid hps
    have HFI := hid hfin
    have HSU := hid hsum
    have htot : Sp.total ps ≤ 120 := by
      rw [hsum]
      split <;> omega
    obtain ⟨m, hm⟩ : ∃ m, ps.length = m := ⟨_, rfl⟩
    have HM := hid hm
    rw [hm] at hlen
    clear hps hm hfin hsum
    go_wp2_with fail
    refine (split_calls kind HT.out HX.out true (by omega) HE.out).mono ?_
    rw [HPS.out]
    rintro e w2 ⟨v2, rfl, o2, b2⟩
    obtain ⟨a2, c2, rfl, p2⟩ := Pc.ofOwn o2
    rw [HM.out] at p2 ⊢
    have P2 := hid p2
    have B2 := hid b2
    clear o2 b2 p2
    go_wp2_with fail
    go_loopg [7, 25] m (fun r sv iv wr => ∃ j : Nat, r = m - j ∧ j ≤ m ∧ sv = .int .i64 (Sp.total (ps.take j) : Nat) ∧ iv = .int .i64 (j : Int) ∧ Hid (Below w2.heap.size w2 wr))
    case atStart => exact ⟨0, rfl, by omega, rfl, rfl, hid (Below.refl _ _)⟩
    case round =>
      obtain ⟨j, rfl, hj, rfl, rfl, HB⟩ := hrel
      by_cases hlt : j < m
      · have k1 : (j : Int) < m := by omega
        have k0 : (0 : Int) ≤ j := by omega
        have e2 : IntKind.i64.wrap ((j : Int) + 1) = j + 1 := i64_in (by omega) (by omega)
        have hsn := Sp.total_snoc (ps.take j) (pt ps j)
        rw [← Sp.take_snoc (pt_get (by rw [HM.out]; exact hlt))] at hsn
        have hle := Sp.total_take_le ps (j + 1)
        have hpp := HFI.out (pt ps j) (pt_mem (by rw [HM.out]; exact hlt))
        obtain ⟨b, off, rfl, hbl, hc⟩ := (P2.out.below HB.out).at' (by omega)
        obtain ⟨p0, p1⟩ := hc j hlt
        obtain ⟨⟨N, d⟩, hx⟩ : ∃ x, pt ps j = x := ⟨_, rfl⟩
        rw [hx] at p0 p1 hsn hpp
        simp only at p0 p1 hsn hpp
        obtain ⟨hN, rfl⟩ := hpp
        obtain ⟨S, hSj⟩ : ∃ S, Sp.total (ps.take j) = S := ⟨_, rfl⟩
        obtain ⟨S', hS'⟩ : ∃ S, Sp.total (ps.take (j + 1)) = S := ⟨_, rfl⟩
        rw [hSj, hS'] at hsn
        rw [hS'] at hle
        rw [hSj]
        have HS' := hid hS'
        have e3 : IntKind.i64.wrap ((S : Int) + (N : Int)) = (S' : Int) := by rw [i64_in (by omega) (by omega)]; omega
        have k3 : ¬ (N : Int) < 1 := by omega
        have B3 := hid (HB.out.alloc HB.out.size (.cells #[.int .i64 (N : Nat), .bool true] 33))
        clear hx hc hSj hS'
        go_wp2_with fail
        go_roundg (m - (j + 1))
        case measure => omega
        case rel => exact ⟨j + 1, rfl, by omega, by rw [HS'.out, hsn]; simp, by go_num, B3⟩
      · have hjm : ps.take j = ps := List.take_of_length_le (by rw [HM.out]; omega)
        have k1 : ¬ (j : Int) < m := by omega
        rw [hjm]
        have B4 := hid (B2.out.trans (HB.out.mono B2.out.size))
        have T4 := hid (HT.out.below B4.out)
        have X4 := hid (HX.out.below B4.out)
        clear hjm htot HB B2 HFI HPS
        by_cases hk0 : 0 ≤ kind
        · by_cases hk3 : kind ≤ 3
          · cases hmy : Cl.may L H C tn with
            | true =>
              have hS := HSU.out
              rw [if_pos ⟨hk0, hk3, hmy⟩] at hS
              rw [hS]
              have HMY := hid hmy
              clear hS hmy HSU
              go_wp2_with fail
              refine (rmay_calls ta tn tc L H C _ T4.out).mono ?_
              rintro e w3 ⟨rfl, b3⟩
              rw [HMY.out]
              have B6 := hid (B4.out.trans (b3.mono B4.out.size))
              have X6 := hid (HX.out.below B6.out)
              clear b3 B4 T4 X4
              have HSY := hid (sbytes_calls X6.out (by omega))
              go_wp2_with fail
              refine HSY.out.mono ?_
              rintro e w5 ⟨hso, b5⟩
              have B5 := hid (B6.out.trans (b5.mono B6.out.size))
              have X5 := hid (HX.out.below B5.out)
              have E5 := hid (HE.out.below B5.out (Nat.le_refl _))
              clear HSY b5
              rcases hso with ⟨a5, c5, hall, rfl, s5⟩ | ⟨a5, c5, hall, rfl⟩
              · have HA := hid hall
                have S5 := hid s5
                clear hall s5
                go_wp2_with fail
                go_loopg [13, 74] n (fun r bv iv wr => ∃ i : Nat, r = n - i ∧ i ≤ n ∧ bv = .bool true ∧ iv = .int .i64 (i : Int) ∧ wr = w5)
                case atStart => exact ⟨0, rfl, by omega, rfl, rfl, rfl⟩
                case round =>
                  obtain ⟨i, rfl, hi, rfl, rfl, rfl⟩ := hrel
                  by_cases hil : i < n
                  · have k7 : (i : Int) < n := by omega
                    have k8 : (0 : Int) ≤ i := by omega
                    have e7 : IntKind.i64.wrap ((i : Int) + 1) = i + 1 := i64_in (by omega) (by omega)
                    have hx := Sp.isB_iff.1 (HA.out (it xs i) (Pr.it_mem (by rw [HL.out]; exact hil)))
                    obtain ⟨b, off, rfl, hbl, hc⟩ := X5.out.at' (by omega)
                    obtain ⟨b', off', rfl, hbl', hc'⟩ := S5.out.at' (by omega)
                    have q0 := hc i hil
                    have q1 : _ = some (Value.int .u8 (it xs i)) := hc' i hil
                    obtain ⟨x, hxe⟩ : ∃ x, it xs i = x := ⟨_, rfl⟩
                    rw [hxe] at q0 q1 hx
                    have k9 : (0 : Int) ≤ x := hx.1
                    have k10 : x < 256 := by omega
                    have e8 : IntKind.i64.wrap x = x := i64_in (by omega) (by omega)
                    clear hc hc' hxe
                    go_wp2_with fail
                    go_roundg (n - (i + 1))
                    case measure => omega
                    case rel => exact ⟨i + 1, rfl, by omega, rfl, by go_num, rfl⟩
                  · have k7 : ¬ (i : Int) < n := by omega
                    go_wp2_with fail
                    refine (fixed13_calls E5.out).mono ?_
                    rintro e w9 ⟨rfl, b9⟩
                    have B9 := hid (B5.out.trans (b9.mono B5.out.size))
                    clear b9
                    go_wp2_with fail
                    go_ret
                    exact ⟨rfl, B9.out⟩
              · have HA := hid (show Sp.pl xs n = false by
                  cases h : Sp.pl xs n with
                  | false => rfl
                  | true => exact absurd ((Sp.pl_all xs n HL.out).1 h) hall)
                clear hall
                go_wp2_with fail
                go_loopg [13, 74] n (fun r bv iv wr => ∃ i : Nat, r = n - i ∧ i ≤ n ∧ bv = .bool (Sp.pl xs i) ∧ iv = .int .i64 (i : Int) ∧ wr = w5)
                case atStart => exact ⟨0, rfl, by omega, rfl, rfl, rfl⟩
                case round =>
                  obtain ⟨i, rfl, hi, rfl, rfl, rfl⟩ := hrel
                  by_cases hil : i < n
                  · have k7 : (i : Int) < n := by omega
                    have k8 : (0 : Int) ≤ i := by omega
                    have e7 : IntKind.i64.wrap ((i : Int) + 1) = i + 1 := i64_in (by omega) (by omega)
                    obtain ⟨b, off, rfl, hbl, hc⟩ := X5.out.at' (by omega)
                    have q0 := hc i hil
                    have hpn := Sp.pl_next (xs := xs) (j := i) (by rw [HL.out]; exact hil)
                    obtain ⟨x, hxe⟩ : ∃ x, it xs i = x := ⟨_, rfl⟩
                    rw [hxe] at q0 hpn
                    obtain ⟨P, hP⟩ : ∃ P, Sp.pl xs i = P := ⟨_, rfl⟩
                    rw [hP] at hpn ⊢
                    have HPN := hid hpn
                    clear hc hxe hP hpn
                    cases P with
                    | false =>
                      go_wp2_with fail
                      go_roundg (n - (i + 1))
                      case measure => omega
                      case rel => exact ⟨i + 1, rfl, by omega, by rw [HPN.out]; rfl, by go_num, rfl⟩
                    | true =>
                      by_cases hx0 : 0 ≤ x
                      · by_cases hx1 : x < 256
                        · have HB := hid (show Sp.isB x = true from Sp.isB_iff.2 ⟨by omega, by omega⟩)
                          go_wp2_with fail
                          go_roundg (n - (i + 1))
                          case measure => omega
                          case rel => exact ⟨i + 1, rfl, by omega, by rw [HPN.out, HB.out]; rfl, by go_num, rfl⟩
                        · have HB := hid (show Sp.isB x = false by unfold Sp.isB; simp; omega)
                          go_wp2_with fail
                          go_roundg (n - (i + 1))
                          case measure => omega
                          case rel => exact ⟨i + 1, rfl, by omega, by rw [HPN.out, HB.out]; rfl, by go_num, rfl⟩
                      · have HB := hid (show Sp.isB x = false by unfold Sp.isB; simp; omega)
                        go_wp2_with fail
                        go_roundg (n - (i + 1))
                        case measure => omega
                        case rel => exact ⟨i + 1, rfl, by omega, by rw [HPN.out, HB.out]; rfl, by go_num, rfl⟩
                  · have hin : i = n := by omega
                    have k7 : ¬ (i : Int) < n := by omega
                    rw [show Sp.pl xs i = false by rw [hin]; exact HA.out]
                    clear hin
                    go_wp2_with fail
                    refine (fixed13_calls E5.out).mono ?_
                    rintro e w9 ⟨rfl, b9⟩
                    have B9 := hid (B5.out.trans (b9.mono B5.out.size))
                    clear b9
                    go_wp2_with fail
                    go_ret
                    exact ⟨rfl, B9.out⟩
            | false =>
              have hS := HSU.out
              rw [if_neg (fun h => by rw [hmy] at h; cases h.2.2)] at hS
              rw [hS]
              have HMY := hid hmy
              clear hS hmy HSU
              go_wp2_with fail
              refine (rmay_calls ta tn tc L H C _ T4.out).mono ?_
              rintro e w3 ⟨rfl, b3⟩
              rw [HMY.out]
              have B6 := hid (B4.out.trans (b3.mono B4.out.size))
              have X6 := hid (HX.out.below B6.out)
              clear b3 B4 T4 X4
              have HSY := hid (sbytes_calls X6.out (by omega))
              go_wp2_with fail
              refine HSY.out.mono ?_
              rintro e w5 ⟨hso, b5⟩
              have B5 := hid (B6.out.trans (b5.mono B6.out.size))
              have X5 := hid (HX.out.below B5.out)
              have E5 := hid (HE.out.below B5.out (Nat.le_refl _))
              clear HSY b5
              rcases hso with ⟨a5, c5, hall, rfl, s5⟩ | ⟨a5, c5, hall, rfl⟩
              · have HA := hid hall
                have S5 := hid s5
                clear hall s5
                go_wp2_with fail
                go_loopg [13, 74] n (fun r bv iv wr => ∃ i : Nat, r = n - i ∧ i ≤ n ∧ bv = .bool true ∧ iv = .int .i64 (i : Int) ∧ wr = w5)
                case atStart => exact ⟨0, rfl, by omega, rfl, rfl, rfl⟩
                case round =>
                  obtain ⟨i, rfl, hi, rfl, rfl, rfl⟩ := hrel
                  by_cases hil : i < n
                  · have k7 : (i : Int) < n := by omega
                    have k8 : (0 : Int) ≤ i := by omega
                    have e7 : IntKind.i64.wrap ((i : Int) + 1) = i + 1 := i64_in (by omega) (by omega)
                    have hx := Sp.isB_iff.1 (HA.out (it xs i) (Pr.it_mem (by rw [HL.out]; exact hil)))
                    obtain ⟨b, off, rfl, hbl, hc⟩ := X5.out.at' (by omega)
                    obtain ⟨b', off', rfl, hbl', hc'⟩ := S5.out.at' (by omega)
                    have q0 := hc i hil
                    have q1 : _ = some (Value.int .u8 (it xs i)) := hc' i hil
                    obtain ⟨x, hxe⟩ : ∃ x, it xs i = x := ⟨_, rfl⟩
                    rw [hxe] at q0 q1 hx
                    have k9 : (0 : Int) ≤ x := hx.1
                    have k10 : x < 256 := by omega
                    have e8 : IntKind.i64.wrap x = x := i64_in (by omega) (by omega)
                    clear hc hc' hxe
                    go_wp2_with fail
                    go_roundg (n - (i + 1))
                    case measure => omega
                    case rel => exact ⟨i + 1, rfl, by omega, rfl, by go_num, rfl⟩
                  · have k7 : ¬ (i : Int) < n := by omega
                    go_wp2_with fail
                    refine (fixed13_calls E5.out).mono ?_
                    rintro e w9 ⟨rfl, b9⟩
                    have B9 := hid (B5.out.trans (b9.mono B5.out.size))
                    clear b9
                    go_wp2_with fail
                    go_ret
                    exact ⟨rfl, B9.out⟩
              · have HA := hid (show Sp.pl xs n = false by
                  cases h : Sp.pl xs n with
                  | false => rfl
                  | true => exact absurd ((Sp.pl_all xs n HL.out).1 h) hall)
                clear hall
                go_wp2_with fail
                go_loopg [13, 74] n (fun r bv iv wr => ∃ i : Nat, r = n - i ∧ i ≤ n ∧ bv = .bool (Sp.pl xs i) ∧ iv = .int .i64 (i : Int) ∧ wr = w5)
                case atStart => exact ⟨0, rfl, by omega, rfl, rfl, rfl⟩
                case round =>
                  obtain ⟨i, rfl, hi, rfl, rfl, rfl⟩ := hrel
                  by_cases hil : i < n
                  · have k7 : (i : Int) < n := by omega
                    have k8 : (0 : Int) ≤ i := by omega
                    have e7 : IntKind.i64.wrap ((i : Int) + 1) = i + 1 := i64_in (by omega) (by omega)
                    obtain ⟨b, off, rfl, hbl, hc⟩ := X5.out.at' (by omega)
                    have q0 := hc i hil
                    have hpn := Sp.pl_next (xs := xs) (j := i) (by rw [HL.out]; exact hil)
                    obtain ⟨x, hxe⟩ : ∃ x, it xs i = x := ⟨_, rfl⟩
                    rw [hxe] at q0 hpn
                    obtain ⟨P, hP⟩ : ∃ P, Sp.pl xs i = P := ⟨_, rfl⟩
                    rw [hP] at hpn ⊢
                    have HPN := hid hpn
                    clear hc hxe hP hpn
                    cases P with
                    | false =>
                      go_wp2_with fail
                      go_roundg (n - (i + 1))
                      case measure => omega
                      case rel => exact ⟨i + 1, rfl, by omega, by rw [HPN.out]; rfl, by go_num, rfl⟩
                    | true =>
                      by_cases hx0 : 0 ≤ x
                      · by_cases hx1 : x < 256
                        · have HB := hid (show Sp.isB x = true from Sp.isB_iff.2 ⟨by omega, by omega⟩)
                          go_wp2_with fail
                          go_roundg (n - (i + 1))
                          case measure => omega
                          case rel => exact ⟨i + 1, rfl, by omega, by rw [HPN.out, HB.out]; rfl, by go_num, rfl⟩
                        · have HB := hid (show Sp.isB x = false by unfold Sp.isB; simp; omega)
                          go_wp2_with fail
                          go_roundg (n - (i + 1))
                          case measure => omega
                          case rel => exact ⟨i + 1, rfl, by omega, by rw [HPN.out, HB.out]; rfl, by go_num, rfl⟩
                      · have HB := hid (show Sp.isB x = false by unfold Sp.isB; simp; omega)
                        go_wp2_with fail
                        go_roundg (n - (i + 1))
                        case measure => omega
                        case rel => exact ⟨i + 1, rfl, by omega, by rw [HPN.out, HB.out]; rfl, by go_num, rfl⟩
                  · have hin : i = n := by omega
                    have k7 : ¬ (i : Int) < n := by omega
                    rw [show Sp.pl xs i = false by rw [hin]; exact HA.out]
                    clear hin
                    go_wp2_with fail
                    refine (fixed13_calls E5.out).mono ?_
                    rintro e w9 ⟨rfl, b9⟩
                    have B9 := hid (B5.out.trans (b9.mono B5.out.size))
                    clear b9
                    go_wp2_with fail
                    go_ret
                    exact ⟨rfl, B9.out⟩
          · have hS := HSU.out
            rw [if_neg (fun h => hk3 h.2.1)] at hS
            rw [hS]
            clear hS HSU
            have HSY := hid (sbytes_calls X4.out (by omega))
            go_wp2_with fail
            refine HSY.out.mono ?_
            rintro e w5 ⟨hso, b5⟩
            have B5 := hid (B4.out.trans (b5.mono B4.out.size))
            have X5 := hid (HX.out.below B5.out)
            have E5 := hid (HE.out.below B5.out (Nat.le_refl _))
            clear HSY b5
            rcases hso with ⟨a5, c5, hall, rfl, s5⟩ | ⟨a5, c5, hall, rfl⟩
            · have HA := hid hall
              have S5 := hid s5
              clear hall s5
              go_wp2_with fail
              go_loopg [13, 74] n (fun r bv iv wr => ∃ i : Nat, r = n - i ∧ i ≤ n ∧ bv = .bool true ∧ iv = .int .i64 (i : Int) ∧ wr = w5)
              case atStart => exact ⟨0, rfl, by omega, rfl, rfl, rfl⟩
              case round =>
                obtain ⟨i, rfl, hi, rfl, rfl, rfl⟩ := hrel
                by_cases hil : i < n
                · have k7 : (i : Int) < n := by omega
                  have k8 : (0 : Int) ≤ i := by omega
                  have e7 : IntKind.i64.wrap ((i : Int) + 1) = i + 1 := i64_in (by omega) (by omega)
                  have hx := Sp.isB_iff.1 (HA.out (it xs i) (Pr.it_mem (by rw [HL.out]; exact hil)))
                  obtain ⟨b, off, rfl, hbl, hc⟩ := X5.out.at' (by omega)
                  obtain ⟨b', off', rfl, hbl', hc'⟩ := S5.out.at' (by omega)
                  have q0 := hc i hil
                  have q1 : _ = some (Value.int .u8 (it xs i)) := hc' i hil
                  obtain ⟨x, hxe⟩ : ∃ x, it xs i = x := ⟨_, rfl⟩
                  rw [hxe] at q0 q1 hx
                  have k9 : (0 : Int) ≤ x := hx.1
                  have k10 : x < 256 := by omega
                  have e8 : IntKind.i64.wrap x = x := i64_in (by omega) (by omega)
                  clear hc hc' hxe
                  go_wp2_with fail
                  go_roundg (n - (i + 1))
                  case measure => omega
                  case rel => exact ⟨i + 1, rfl, by omega, rfl, by go_num, rfl⟩
                · have k7 : ¬ (i : Int) < n := by omega
                  go_wp2_with fail
                  refine (fixed13_calls E5.out).mono ?_
                  rintro e w9 ⟨rfl, b9⟩
                  have B9 := hid (B5.out.trans (b9.mono B5.out.size))
                  clear b9
                  go_wp2_with fail
                  go_ret
                  exact ⟨rfl, B9.out⟩
            · have HA := hid (show Sp.pl xs n = false by
                cases h : Sp.pl xs n with
                | false => rfl
                | true => exact absurd ((Sp.pl_all xs n HL.out).1 h) hall)
              clear hall
              go_wp2_with fail
              go_loopg [13, 74] n (fun r bv iv wr => ∃ i : Nat, r = n - i ∧ i ≤ n ∧ bv = .bool (Sp.pl xs i) ∧ iv = .int .i64 (i : Int) ∧ wr = w5)
              case atStart => exact ⟨0, rfl, by omega, rfl, rfl, rfl⟩
              case round =>
                obtain ⟨i, rfl, hi, rfl, rfl, rfl⟩ := hrel
                by_cases hil : i < n
                · have k7 : (i : Int) < n := by omega
                  have k8 : (0 : Int) ≤ i := by omega
                  have e7 : IntKind.i64.wrap ((i : Int) + 1) = i + 1 := i64_in (by omega) (by omega)
                  obtain ⟨b, off, rfl, hbl, hc⟩ := X5.out.at' (by omega)
                  have q0 := hc i hil
                  have hpn := Sp.pl_next (xs := xs) (j := i) (by rw [HL.out]; exact hil)
                  obtain ⟨x, hxe⟩ : ∃ x, it xs i = x := ⟨_, rfl⟩
                  rw [hxe] at q0 hpn
                  obtain ⟨P, hP⟩ : ∃ P, Sp.pl xs i = P := ⟨_, rfl⟩
                  rw [hP] at hpn ⊢
                  have HPN := hid hpn
                  clear hc hxe hP hpn
                  cases P with
                  | false =>
                    go_wp2_with fail
                    go_roundg (n - (i + 1))
                    case measure => omega
                    case rel => exact ⟨i + 1, rfl, by omega, by rw [HPN.out]; rfl, by go_num, rfl⟩
                  | true =>
                    by_cases hx0 : 0 ≤ x
                    · by_cases hx1 : x < 256
                      · have HB := hid (show Sp.isB x = true from Sp.isB_iff.2 ⟨by omega, by omega⟩)
                        go_wp2_with fail
                        go_roundg (n - (i + 1))
                        case measure => omega
                        case rel => exact ⟨i + 1, rfl, by omega, by rw [HPN.out, HB.out]; rfl, by go_num, rfl⟩
                      · have HB := hid (show Sp.isB x = false by unfold Sp.isB; simp; omega)
                        go_wp2_with fail
                        go_roundg (n - (i + 1))
                        case measure => omega
                        case rel => exact ⟨i + 1, rfl, by omega, by rw [HPN.out, HB.out]; rfl, by go_num, rfl⟩
                    · have HB := hid (show Sp.isB x = false by unfold Sp.isB; simp; omega)
                      go_wp2_with fail
                      go_roundg (n - (i + 1))
                      case measure => omega
                      case rel => exact ⟨i + 1, rfl, by omega, by rw [HPN.out, HB.out]; rfl, by go_num, rfl⟩
                · have hin : i = n := by omega
                  have k7 : ¬ (i : Int) < n := by omega
                  rw [show Sp.pl xs i = false by rw [hin]; exact HA.out]
                  clear hin
                  go_wp2_with fail
                  refine (fixed13_calls E5.out).mono ?_
                  rintro e w9 ⟨rfl, b9⟩
                  have B9 := hid (B5.out.trans (b9.mono B5.out.size))
                  clear b9
                  go_wp2_with fail
                  go_ret
                  exact ⟨rfl, B9.out⟩
        · have hS := HSU.out
          rw [if_neg (fun h => hk0 h.1)] at hS
          rw [hS]
          clear hS HSU
          have HSY := hid (sbytes_calls X4.out (by omega))
          go_wp2_with fail
          refine HSY.out.mono ?_
          rintro e w5 ⟨hso, b5⟩
          have B5 := hid (B4.out.trans (b5.mono B4.out.size))
          have X5 := hid (HX.out.below B5.out)
          have E5 := hid (HE.out.below B5.out (Nat.le_refl _))
          clear HSY b5
          rcases hso with ⟨a5, c5, hall, rfl, s5⟩ | ⟨a5, c5, hall, rfl⟩
          · have HA := hid hall
            have S5 := hid s5
            clear hall s5
            go_wp2_with fail
            go_loopg [13, 74] n (fun r bv iv wr => ∃ i : Nat, r = n - i ∧ i ≤ n ∧ bv = .bool true ∧ iv = .int .i64 (i : Int) ∧ wr = w5)
            case atStart => exact ⟨0, rfl, by omega, rfl, rfl, rfl⟩
            case round =>
              obtain ⟨i, rfl, hi, rfl, rfl, rfl⟩ := hrel
              by_cases hil : i < n
              · have k7 : (i : Int) < n := by omega
                have k8 : (0 : Int) ≤ i := by omega
                have e7 : IntKind.i64.wrap ((i : Int) + 1) = i + 1 := i64_in (by omega) (by omega)
                have hx := Sp.isB_iff.1 (HA.out (it xs i) (Pr.it_mem (by rw [HL.out]; exact hil)))
                obtain ⟨b, off, rfl, hbl, hc⟩ := X5.out.at' (by omega)
                obtain ⟨b', off', rfl, hbl', hc'⟩ := S5.out.at' (by omega)
                have q0 := hc i hil
                have q1 : _ = some (Value.int .u8 (it xs i)) := hc' i hil
                obtain ⟨x, hxe⟩ : ∃ x, it xs i = x := ⟨_, rfl⟩
                rw [hxe] at q0 q1 hx
                have k9 : (0 : Int) ≤ x := hx.1
                have k10 : x < 256 := by omega
                have e8 : IntKind.i64.wrap x = x := i64_in (by omega) (by omega)
                clear hc hc' hxe
                go_wp2_with fail
                go_roundg (n - (i + 1))
                case measure => omega
                case rel => exact ⟨i + 1, rfl, by omega, rfl, by go_num, rfl⟩
              · have k7 : ¬ (i : Int) < n := by omega
                go_wp2_with fail
                refine (fixed13_calls E5.out).mono ?_
                rintro e w9 ⟨rfl, b9⟩
                have B9 := hid (B5.out.trans (b9.mono B5.out.size))
                clear b9
                go_wp2_with fail
                go_ret
                exact ⟨rfl, B9.out⟩
          · have HA := hid (show Sp.pl xs n = false by
              cases h : Sp.pl xs n with
              | false => rfl
              | true => exact absurd ((Sp.pl_all xs n HL.out).1 h) hall)
            clear hall
            go_wp2_with fail
            go_loopg [13, 74] n (fun r bv iv wr => ∃ i : Nat, r = n - i ∧ i ≤ n ∧ bv = .bool (Sp.pl xs i) ∧ iv = .int .i64 (i : Int) ∧ wr = w5)
            case atStart => exact ⟨0, rfl, by omega, rfl, rfl, rfl⟩
            case round =>
              obtain ⟨i, rfl, hi, rfl, rfl, rfl⟩ := hrel
              by_cases hil : i < n
              · have k7 : (i : Int) < n := by omega
                have k8 : (0 : Int) ≤ i := by omega
                have e7 : IntKind.i64.wrap ((i : Int) + 1) = i + 1 := i64_in (by omega) (by omega)
                obtain ⟨b, off, rfl, hbl, hc⟩ := X5.out.at' (by omega)
                have q0 := hc i hil
                have hpn := Sp.pl_next (xs := xs) (j := i) (by rw [HL.out]; exact hil)
                obtain ⟨x, hxe⟩ : ∃ x, it xs i = x := ⟨_, rfl⟩
                rw [hxe] at q0 hpn
                obtain ⟨P, hP⟩ : ∃ P, Sp.pl xs i = P := ⟨_, rfl⟩
                rw [hP] at hpn ⊢
                have HPN := hid hpn
                clear hc hxe hP hpn
                cases P with
                | false =>
                  go_wp2_with fail
                  go_roundg (n - (i + 1))
                  case measure => omega
                  case rel => exact ⟨i + 1, rfl, by omega, by rw [HPN.out]; rfl, by go_num, rfl⟩
                | true =>
                  by_cases hx0 : 0 ≤ x
                  · by_cases hx1 : x < 256
                    · have HB := hid (show Sp.isB x = true from Sp.isB_iff.2 ⟨by omega, by omega⟩)
                      go_wp2_with fail
                      go_roundg (n - (i + 1))
                      case measure => omega
                      case rel => exact ⟨i + 1, rfl, by omega, by rw [HPN.out, HB.out]; rfl, by go_num, rfl⟩
                    · have HB := hid (show Sp.isB x = false by unfold Sp.isB; simp; omega)
                      go_wp2_with fail
                      go_roundg (n - (i + 1))
                      case measure => omega
                      case rel => exact ⟨i + 1, rfl, by omega, by rw [HPN.out, HB.out]; rfl, by go_num, rfl⟩
                  · have HB := hid (show Sp.isB x = false by unfold Sp.isB; simp; omega)
                    go_wp2_with fail
                    go_roundg (n - (i + 1))
                    case measure => omega
                    case rel => exact ⟨i + 1, rfl, by omega, by rw [HPN.out, HB.out]; rfl, by go_num, rfl⟩
              · have hin : i = n := by omega
                have k7 : ¬ (i : Int) < n := by omega
                rw [show Sp.pl xs i = false by rw [hin]; exact HA.out]
                clear hin
                go_wp2_with fail
                refine (fixed13_calls E5.out).mono ?_
                rintro e w9 ⟨rfl, b9⟩
                have B9 := hid (B5.out.trans (b9.mono B5.out.size))
                clear b9
                go_wp2_with fail
                go_ret
                exact ⟨rfl, B9.out⟩
end Go.Proofs.YtiheagkgpbkkfaaDoor
