/-
  The reference's Split.
-/
import Derived.Test.YtiheagkgpbkkfaaDoorSpL
import Derived.Test.YtiheagkgpbkkfaaDoorSpR1
import Derived.Test.YtiheagkgpbkkfaaDoorScR9
import Derived.Test.YtiheagkgpbkkfaaDoorLotC
namespace Go.Proofs.YtiheagkgpbkkfaaDoor
open Go.RowKit
set_option linter.unusedVariables false
open Pr (it)
theorem Tryd.infoPc : (Tryd.prog.info? 33).map (fun i => (i.zero, i.size, i.bytes)) = some (some (.agg #[.int .i64 0, .bool false]), 2, 16) := by kernel_rfl
/-- Pieces answered: a row of the call's own. -/
def PcOut (w : World) (ps : List (Nat × Bool)) (e : Ending) (w' : World) : Prop :=
  ∃ v, e = .returned v ∧ w'.ownsRow w.heap.size 33 2 v ps.length (pcv ps) ∧ Below w.heap.size w w'
set_option maxRecDepth 100000 in
set_option maxHeartbeats 6400000 in
theorem rsplit_true {w : World} {ta a : Option Addr} {tn tc n c : Nat} {L H C : Nat → Int} {xs : Pr.Row} (kd : Nat) (hk : kd ≤ 3) (hT : Rs w ta tn tc L H C) (hX : Ir w a n c xs) (hn : n ≤ 100000) (hm : Cl.may L H C tn = true) :
    Calls Tryd.prog 12 #[.int .i64 (kd : Nat), .slice ta tn tc, .slice a n c, .bool true] w fun e w' => PcOut w (Sp.sp (Sp.Xk (Cl.of L H C tn) kd) true false xs) e w' := by
  obtain ⟨i0, hi0, hz0, hz1, hz2⟩ := info_parts Tryd.infoPc
  have O0 := hid (own_empty (w := w) (base := w.heap.size) (e := 33) (size := 2) w.heap.size rfl (Nat.le_refl _))
  have b0 := (Below.refl w.heap.size w).alloc (Nat.le_refl _) (.cells #[] 33)
  have B0 := hid b0
  have HT := hid (hT.below b0)
  have HL := hid hX.len
  have T0 := hid hT
  have X0 := hid hX
  have hk1 : ¬ (kd : Int) < 0 := by omega
  have hk2 : ¬ 3 < (kd : Int) := by omega
  obtain ⟨cl, hcl⟩ : ∃ cl : Int → Int, Cl.of L H C tn = cl := ⟨_, rfl⟩
  have hrg : ∀ p, 0 ≤ cl p ∧ cl p ≤ 4 := by rw [← hcl]; exact fun p => Cl.of_rg L H C tn p
  have HC := hid (Sp.Xk_cut hrg hk)
  have HM := hid hm
  have HCL := hid hcl
  rw [hcl]
  clear hm hcl hrg hT hX b0
  go_enter Tryd.func12, Tryd.ntmps12
  go_wp2_with fail
  refine (rmay_calls ta tn tc L H C _ HT.out).mono ?_
  rintro e w1 ⟨rfl, b1⟩
  rw [HM.out]
  have O1 := hid (own_below O0.out b1)
  have B1 := hid (B0.out.trans (b1.mono B0.out.size))
  clear b1 O0 B0 HT
  go_wp2_with fail
  go_loopg [9, 10, 11] n (fun r ov iv bv wr => ∃ (j : Nat) (o : Bool) (ps : List (Nat × Bool)), r = n - j ∧ j ≤ n ∧ iv = .int .i64 (j : Int) ∧ bv = .bool o ∧ ps.length ≤ j ∧ Hid (Sp.sp (Sp.Xk cl kd) true false xs = ps ++ Sp.sp (Sp.Xk cl kd) true o (xs.drop j)) ∧ Hid (wr.ownsRow w.heap.size 33 2 ov ps.length (pcv ps)) ∧ Hid (Below w.heap.size w wr))
  case atStart => exact ⟨0, false, [], rfl, by omega, rfl, rfl, Nat.le_refl _, hid rfl, O1, B1⟩
  case round =>
    obtain ⟨j, o, ps, rfl, hj, rfl, rfl, hpl, HE, HO, HB⟩ := hrel
    by_cases hlt : j < n
    · have k1 : (j : Int) < n := by omega
      have k0 : (0 : Int) ≤ j := by omega
      obtain ⟨D, hD⟩ : ∃ D, xs.drop j = D := ⟨_, rfl⟩
      have hDl : D.length = n - j := by rw [← hD, List.length_drop, HL.out]
      have hDn := fun q => (show D.drop q = xs.drop (j + q) by rw [← hD, List.drop_drop])
      have hrl := Sp.rl_le D
      have h := sprun_calls (X0.out.below HB.out) j hj hn
      rw [hD] at h HE
      have HDN := hid hDn
      have HRC := hid h
      clear h hD hDn
      obtain ⟨x, l, rfl⟩ : ∃ x l, D = x :: l := by
        cases D with
        | nil => simp at hDl; omega
        | cons x l => exact ⟨x, l, rfl⟩
      have HS := hid (St.of (Sp.run_bd (x :: l)) (Sp.rl (x :: l)))
      obtain ⟨s, hs⟩ : ∃ s, str (Sp.fn (Sp.run (x :: l))) (Sp.rl (x :: l)) = s := ⟨_, rfl⟩
      rw [hs] at HS HRC
      clear hs
      cases hx : Sp.isB x with
      | false =>
        have hr0 : Sp.rl (x :: l) = 0 := by unfold Sp.rl; exact Sc.tw_cons_no hx
        have hsp := Sp.sp_mark (X := Sp.Xk cl kd) true o l hx
        have h1 := HDN.out 1
        rw [List.drop_succ_cons, List.drop_zero] at h1
        rw [hsp, h1] at HE
        rw [hr0] at HS
        have hne := HS.out.isEmpty_yes
        have e2 : IntKind.i64.wrap ((j : Int) + 1) = j + 1 := i64_in (by omega) (by omega)
        clear hsp h1 hx hr0 HDN
        go_wp2_with fail
        refine HRC.out.mono ?_
        rintro e w2 ⟨rfl, b2⟩
        have O2 := hid (own_below HO.out b2)
        have B2 := hid (HB.out.trans (b2.mono HB.out.size))
        clear b2 HO HB HRC
        go_wp2_with (at_builtin; refine wpList_append_src rfl _ _ 26 rfl w.heap.size 33 i0 _ 2 16 Tryd.underlying26 hi0 hz0 hz1 hz2 rfl (by omega) _ ps.length (pcv ps) rfl (O2.out.alloc _) (some ⟨w2.heap.size, 0, none⟩) 1 1 [.int .i64 1, .bool true] rfl (src_pc 1 true 33) (by unfold maxLen; omega) (by omega) (by have := B2.out.size; simp; omega) ?_; intro v4 w4 ho4 hg4 ha4; have O4 := hid ho4; have G4 := hid hg4; clear ho4 hg4 ha4)
        have B4 := hid ((B2.out.alloc B2.out.size (.cells #[.int .i64 1, .bool true] 33)).grown G4.out (by have := B2.out.size; simp; omega) (fun k hk => (O2.out.lt k hk).1))
        have O5 := hid (show w4.ownsRow w.heap.size 33 2 v4 (ps ++ [(1, true)]).length (pcv (ps ++ [(1, true)])) from by
          rw [← pcv_snoc, List.length_append]
          exact O4.out)
        have E5 : Hid (Sp.sp (Sp.Xk cl kd) true false xs = (ps ++ [(1, true)]) ++ Sp.sp (Sp.Xk cl kd) true o (xs.drop (j + 1))) := by
          rw [HE.out, List.append_assoc]
          rfl
        clear O4 G4 O2 B2
        go_wp2_with fail
        go_roundg (n - (j + 1))
        case measure => omega
        case rel => exact ⟨j + 1, o, ps ++ [(1, true)], rfl, by omega, by go_num, rfl, by simp; omega, E5, O5, B4⟩
      | true =>
        obtain ⟨⟨N, d⟩, hq⟩ : ∃ q, Sp.Xk cl kd ((x :: l).take (Sp.rl (x :: l))) (true || decide (Sp.rl (x :: l) < (x :: l).length)) = q := ⟨_, rfl⟩
        have hp := HC.out.pos ((x :: l).take (Sp.rl (x :: l))) (true || decide (Sp.rl (x :: l) < (x :: l).length)) (Sp.run_ne hx)
        have hsp := Sp.sp_byte HC.out true o hx hq
        have h1 := HDN.out N
        rw [hsp, h1] at HE
        rw [hq, Sp.run_len] at hp
        have hr0 : 0 < Sp.rl (x :: l) := Sp.rl_pos hx
        have hne := HS.out.isEmpty_no hr0
        have hsz := HS.out.size
        have hq' : Sc.nx cl true kd (Sp.fn (Sp.run (x :: l))) (Sp.rl (x :: l)) (true || decide (Sp.rl (x :: l) < (x :: l).length)) = (N, d) := by
          rw [← hq]
          unfold Sp.Xk
          rw [Sp.run_len]
          rfl
        rw [hDl] at hq' hrl
        obtain ⟨m, hm⟩ : ∃ m, Sp.rl (x :: l) = m := ⟨_, rfl⟩
        obtain ⟨f, hf⟩ : ∃ f, Sp.fn (Sp.run (x :: l)) = f := ⟨_, rfl⟩
        rw [hm, hf] at hq' HS
        rw [hm] at hp hrl hr0 hsz
        have HQ := hid (show Sc.nx cl true kd f m true = (N, d) from hq')
        have e2 : IntKind.i64.wrap ((j : Int) + (N : Int)) = ((j + N : Nat) : Int) := by rw [i64_in (by omega) (by omega)]; omega
        have e3 : IntKind.i64.wrap ((j : Int) + (m : Int)) = (j : Int) + m := i64_in (by omega) (by omega)
        clear hsp h1 hx hq hq' hm hf HDN
        go_wp2_with fail
        refine HRC.out.mono ?_
        rintro e w2 ⟨rfl, b2⟩
        have O2 := hid (own_below HO.out b2)
        have B2 := hid (HB.out.trans (b2.mono HB.out.size))
        have T2 := hid (T0.out.below B2.out)
        clear b2 HO HB HRC
        go_wp2_with fail
        refine (rnext_calls (kd : Int) HS.out T2.out (by omega) _).mono ?_
        rintro e w3 ⟨rfl, b3⟩
        rw [HCL.out, HM.out, HQ.out]
        unfold NX
        have O3 := hid (own_below O2.out b3)
        have B3 := hid (B2.out.trans (b3.mono B2.out.size))
        clear b3 O2 B2 T2 HQ HS HC
        cases o with
        | true =>
          go_wp2_with (at_builtin; refine wpList_append_src rfl _ _ 26 rfl w.heap.size 33 i0 _ 2 16 Tryd.underlying26 hi0 hz0 hz1 hz2 rfl (by omega) _ ps.length (pcv ps) rfl (O3.out.alloc _) (some ⟨w3.heap.size, 0, none⟩) 1 1 [.int .i64 (N : Nat), .bool false] rfl (src_pc (N : Nat) false 33) (by unfold maxLen; omega) (by omega) (by have := B3.out.size; simp; omega) ?_; intro v4 w4 ho4 hg4 ha4; have O4 := hid ho4; have G4 := hid hg4; clear ho4 hg4 ha4)
          have B4 := hid ((B3.out.alloc B3.out.size (.cells #[.int .i64 (N : Nat), .bool false] 33)).grown G4.out (by have := B3.out.size; simp; omega) (fun k hk => (O3.out.lt k hk).1))
          have O5 := hid (show w4.ownsRow w.heap.size 33 2 v4 (ps ++ [(N, false)]).length (pcv (ps ++ [(N, false)])) from by
            rw [← pcv_snoc, List.length_append]
            exact O4.out)
          have E5 : Hid (Sp.sp (Sp.Xk cl kd) true false xs = (ps ++ [(N, false)]) ++ Sp.sp (Sp.Xk cl kd) true true (xs.drop (j + N))) := by
            rw [HE.out, List.append_assoc]
            rfl
          clear O4 G4 O3 B3
          go_wp2_with fail
          go_roundg (n - (j + N))
          case measure => omega
          case rel => exact ⟨j + N, true, ps ++ [(N, false)], rfl, by omega, by go_num, rfl, by simp; omega, E5, O5, B4⟩
        | false =>
          cases d with
          | true =>
            go_wp2_with (at_builtin; refine wpList_append_src rfl _ _ 26 rfl w.heap.size 33 i0 _ 2 16 Tryd.underlying26 hi0 hz0 hz1 hz2 rfl (by omega) _ ps.length (pcv ps) rfl (O3.out.alloc _) (some ⟨w3.heap.size, 0, none⟩) 1 1 [.int .i64 (N : Nat), .bool true] rfl (src_pc (N : Nat) true 33) (by unfold maxLen; omega) (by omega) (by have := B3.out.size; simp; omega) ?_; intro v4 w4 ho4 hg4 ha4; have O4 := hid ho4; have G4 := hid hg4; clear ho4 hg4 ha4)
            have B4 := hid ((B3.out.alloc B3.out.size (.cells #[.int .i64 (N : Nat), .bool true] 33)).grown G4.out (by have := B3.out.size; simp; omega) (fun k hk => (O3.out.lt k hk).1))
            have O5 := hid (show w4.ownsRow w.heap.size 33 2 v4 (ps ++ [(N, true)]).length (pcv (ps ++ [(N, true)])) from by
              rw [← pcv_snoc, List.length_append]
              exact O4.out)
            have E5 : Hid (Sp.sp (Sp.Xk cl kd) true false xs = (ps ++ [(N, true)]) ++ Sp.sp (Sp.Xk cl kd) true false (xs.drop (j + N))) := by
              rw [HE.out, List.append_assoc]
              rfl
            clear O4 G4 O3 B3
            go_wp2_with fail
            go_roundg (n - (j + N))
            case measure => omega
            case rel => exact ⟨j + N, false, ps ++ [(N, true)], rfl, by omega, by go_num, rfl, by simp; omega, E5, O5, B4⟩
          | false =>
            go_wp2_with (at_builtin; refine wpList_append_src rfl _ _ 26 rfl w.heap.size 33 i0 _ 2 16 Tryd.underlying26 hi0 hz0 hz1 hz2 rfl (by omega) _ ps.length (pcv ps) rfl (O3.out.alloc _) (some ⟨w3.heap.size, 0, none⟩) 1 1 [.int .i64 (N : Nat), .bool false] rfl (src_pc (N : Nat) false 33) (by unfold maxLen; omega) (by omega) (by have := B3.out.size; simp; omega) ?_; intro v4 w4 ho4 hg4 ha4; have O4 := hid ho4; have G4 := hid hg4; clear ho4 hg4 ha4)
            have B4 := hid ((B3.out.alloc B3.out.size (.cells #[.int .i64 (N : Nat), .bool false] 33)).grown G4.out (by have := B3.out.size; simp; omega) (fun k hk => (O3.out.lt k hk).1))
            have O5 := hid (show w4.ownsRow w.heap.size 33 2 v4 (ps ++ [(N, false)]).length (pcv (ps ++ [(N, false)])) from by
              rw [← pcv_snoc, List.length_append]
              exact O4.out)
            have E5 : Hid (Sp.sp (Sp.Xk cl kd) true false xs = (ps ++ [(N, false)]) ++ Sp.sp (Sp.Xk cl kd) true true (xs.drop (j + N))) := by
              rw [HE.out, List.append_assoc]
              rfl
            clear O4 G4 O3 B3
            go_wp2_with fail
            go_roundg (n - (j + N))
            case measure => omega
            case rel => exact ⟨j + N, true, ps ++ [(N, false)], rfl, by omega, by go_num, rfl, by simp; omega, E5, O5, B4⟩
    · have hjn : j = n := by omega
      have k1 : ¬ ((j : Int) < n) := by omega
      have hd : xs.drop j = [] := List.drop_of_length_le (by rw [HL.out]; omega)
      have h := HE.out
      rw [hd, Sp.sp_nil, List.append_nil] at h
      have HF := hid h
      clear hd h hjn
      go_wp2_with fail
      go_ret
      exact ⟨_, rfl, by rw [HF.out]; exact HO.out, HB.out⟩
set_option maxRecDepth 100000 in
set_option maxHeartbeats 6400000 in
theorem rsplit_false {w : World} {ta a : Option Addr} {tn tc n c : Nat} {L H C : Nat → Int} {xs : Pr.Row} (kd : Nat) (hk : kd ≤ 3) (hT : Rs w ta tn tc L H C) (hX : Ir w a n c xs) (hn : n ≤ 100000) (hm : Cl.may L H C tn = true) :
    Calls Tryd.prog 12 #[.int .i64 (kd : Nat), .slice ta tn tc, .slice a n c, .bool false] w fun e w' => PcOut w (Sp.sp (Sp.Xk (Cl.of L H C tn) kd) false false xs) e w' := by
  obtain ⟨i0, hi0, hz0, hz1, hz2⟩ := info_parts Tryd.infoPc
  have O0 := hid (own_empty (w := w) (base := w.heap.size) (e := 33) (size := 2) w.heap.size rfl (Nat.le_refl _))
  have b0 := (Below.refl w.heap.size w).alloc (Nat.le_refl _) (.cells #[] 33)
  have B0 := hid b0
  have HT := hid (hT.below b0)
  have HL := hid hX.len
  have T0 := hid hT
  have X0 := hid hX
  have hk1 : ¬ (kd : Int) < 0 := by omega
  have hk2 : ¬ 3 < (kd : Int) := by omega
  obtain ⟨cl, hcl⟩ : ∃ cl : Int → Int, Cl.of L H C tn = cl := ⟨_, rfl⟩
  have hrg : ∀ p, 0 ≤ cl p ∧ cl p ≤ 4 := by rw [← hcl]; exact fun p => Cl.of_rg L H C tn p
  have HC := hid (Sp.Xk_cut hrg hk)
  have HM := hid hm
  have HCL := hid hcl
  rw [hcl]
  clear hm hcl hrg hT hX b0
  go_enter Tryd.func12, Tryd.ntmps12
  go_wp2_with fail
  refine (rmay_calls ta tn tc L H C _ HT.out).mono ?_
  rintro e w1 ⟨rfl, b1⟩
  rw [HM.out]
  have O1 := hid (own_below O0.out b1)
  have B1 := hid (B0.out.trans (b1.mono B0.out.size))
  clear b1 O0 B0 HT
  go_wp2_with fail
  go_loopg [9, 10, 11] n (fun r ov iv bv wr => ∃ (j : Nat) (o : Bool) (ps : List (Nat × Bool)), r = n - j ∧ j ≤ n ∧ iv = .int .i64 (j : Int) ∧ bv = .bool o ∧ ps.length ≤ j ∧ Hid (Sp.sp (Sp.Xk cl kd) false false xs = ps ++ Sp.sp (Sp.Xk cl kd) false o (xs.drop j)) ∧ Hid (wr.ownsRow w.heap.size 33 2 ov ps.length (pcv ps)) ∧ Hid (Below w.heap.size w wr))
  case atStart => exact ⟨0, false, [], rfl, by omega, rfl, rfl, Nat.le_refl _, hid rfl, O1, B1⟩
  case round =>
    obtain ⟨j, o, ps, rfl, hj, rfl, rfl, hpl, HE, HO, HB⟩ := hrel
    by_cases hlt : j < n
    · have k1 : (j : Int) < n := by omega
      have k0 : (0 : Int) ≤ j := by omega
      obtain ⟨D, hD⟩ : ∃ D, xs.drop j = D := ⟨_, rfl⟩
      have hDl : D.length = n - j := by rw [← hD, List.length_drop, HL.out]
      have hDn := fun q => (show D.drop q = xs.drop (j + q) by rw [← hD, List.drop_drop])
      have hrl := Sp.rl_le D
      have h := sprun_calls (X0.out.below HB.out) j hj hn
      rw [hD] at h HE
      have HDN := hid hDn
      have HRC := hid h
      clear h hD hDn
      obtain ⟨x, l, rfl⟩ : ∃ x l, D = x :: l := by
        cases D with
        | nil => simp at hDl; omega
        | cons x l => exact ⟨x, l, rfl⟩
      have HS := hid (St.of (Sp.run_bd (x :: l)) (Sp.rl (x :: l)))
      obtain ⟨s, hs⟩ : ∃ s, str (Sp.fn (Sp.run (x :: l))) (Sp.rl (x :: l)) = s := ⟨_, rfl⟩
      rw [hs] at HS HRC
      clear hs
      cases hx : Sp.isB x with
      | false =>
        have hr0 : Sp.rl (x :: l) = 0 := by unfold Sp.rl; exact Sc.tw_cons_no hx
        have hsp := Sp.sp_mark (X := Sp.Xk cl kd) false o l hx
        have h1 := HDN.out 1
        rw [List.drop_succ_cons, List.drop_zero] at h1
        rw [hsp, h1] at HE
        rw [hr0] at HS
        have hne := HS.out.isEmpty_yes
        have e2 : IntKind.i64.wrap ((j : Int) + 1) = j + 1 := i64_in (by omega) (by omega)
        clear hsp h1 hx hr0 HDN
        go_wp2_with fail
        refine HRC.out.mono ?_
        rintro e w2 ⟨rfl, b2⟩
        have O2 := hid (own_below HO.out b2)
        have B2 := hid (HB.out.trans (b2.mono HB.out.size))
        clear b2 HO HB HRC
        go_wp2_with (at_builtin; refine wpList_append_src rfl _ _ 26 rfl w.heap.size 33 i0 _ 2 16 Tryd.underlying26 hi0 hz0 hz1 hz2 rfl (by omega) _ ps.length (pcv ps) rfl (O2.out.alloc _) (some ⟨w2.heap.size, 0, none⟩) 1 1 [.int .i64 1, .bool true] rfl (src_pc 1 true 33) (by unfold maxLen; omega) (by omega) (by have := B2.out.size; simp; omega) ?_; intro v4 w4 ho4 hg4 ha4; have O4 := hid ho4; have G4 := hid hg4; clear ho4 hg4 ha4)
        have B4 := hid ((B2.out.alloc B2.out.size (.cells #[.int .i64 1, .bool true] 33)).grown G4.out (by have := B2.out.size; simp; omega) (fun k hk => (O2.out.lt k hk).1))
        have O5 := hid (show w4.ownsRow w.heap.size 33 2 v4 (ps ++ [(1, true)]).length (pcv (ps ++ [(1, true)])) from by
          rw [← pcv_snoc, List.length_append]
          exact O4.out)
        have E5 : Hid (Sp.sp (Sp.Xk cl kd) false false xs = (ps ++ [(1, true)]) ++ Sp.sp (Sp.Xk cl kd) false o (xs.drop (j + 1))) := by
          rw [HE.out, List.append_assoc]
          rfl
        clear O4 G4 O2 B2
        go_wp2_with fail
        go_roundg (n - (j + 1))
        case measure => omega
        case rel => exact ⟨j + 1, o, ps ++ [(1, true)], rfl, by omega, by go_num, rfl, by simp; omega, E5, O5, B4⟩
      | true =>
        obtain ⟨⟨N, d⟩, hq⟩ : ∃ q, Sp.Xk cl kd ((x :: l).take (Sp.rl (x :: l))) (false || decide (Sp.rl (x :: l) < (x :: l).length)) = q := ⟨_, rfl⟩
        have hp := HC.out.pos ((x :: l).take (Sp.rl (x :: l))) (false || decide (Sp.rl (x :: l) < (x :: l).length)) (Sp.run_ne hx)
        have hsp := Sp.sp_byte HC.out false o hx hq
        have h1 := HDN.out N
        rw [hsp, h1] at HE
        rw [hq, Sp.run_len] at hp
        have hr0 : 0 < Sp.rl (x :: l) := Sp.rl_pos hx
        have hne := HS.out.isEmpty_no hr0
        have hsz := HS.out.size
        have hq' : Sc.nx cl true kd (Sp.fn (Sp.run (x :: l))) (Sp.rl (x :: l)) (false || decide (Sp.rl (x :: l) < (x :: l).length)) = (N, d) := by
          rw [← hq]
          unfold Sp.Xk
          rw [Sp.run_len]
          rfl
        rw [hDl] at hq' hrl
        obtain ⟨m, hm⟩ : ∃ m, Sp.rl (x :: l) = m := ⟨_, rfl⟩
        obtain ⟨f, hf⟩ : ∃ f, Sp.fn (Sp.run (x :: l)) = f := ⟨_, rfl⟩
        rw [hm, hf] at hq' HS
        rw [hm] at hp hrl hr0 hsz
        have HQ := hid (show Sc.nx cl true kd f m (decide ((j : Int) + m < n)) = (N, d) by rw [← hq', Bool.false_or]; congr 1; exact decide_eq_decide.2 (by omega))
        have e2 : IntKind.i64.wrap ((j : Int) + (N : Int)) = ((j + N : Nat) : Int) := by rw [i64_in (by omega) (by omega)]; omega
        have e3 : IntKind.i64.wrap ((j : Int) + (m : Int)) = (j : Int) + m := i64_in (by omega) (by omega)
        clear hsp h1 hx hq hq' hm hf HDN
        go_wp2_with fail
        refine HRC.out.mono ?_
        rintro e w2 ⟨rfl, b2⟩
        have O2 := hid (own_below HO.out b2)
        have B2 := hid (HB.out.trans (b2.mono HB.out.size))
        have T2 := hid (T0.out.below B2.out)
        clear b2 HO HB HRC
        go_wp2_with fail
        refine (rnext_calls (kd : Int) HS.out T2.out (by omega) _).mono ?_
        rintro e w3 ⟨rfl, b3⟩
        rw [HCL.out, HM.out, HQ.out]
        unfold NX
        have O3 := hid (own_below O2.out b3)
        have B3 := hid (B2.out.trans (b3.mono B2.out.size))
        clear b3 O2 B2 T2 HQ HS HC
        cases o with
        | true =>
          go_wp2_with (at_builtin; refine wpList_append_src rfl _ _ 26 rfl w.heap.size 33 i0 _ 2 16 Tryd.underlying26 hi0 hz0 hz1 hz2 rfl (by omega) _ ps.length (pcv ps) rfl (O3.out.alloc _) (some ⟨w3.heap.size, 0, none⟩) 1 1 [.int .i64 (N : Nat), .bool false] rfl (src_pc (N : Nat) false 33) (by unfold maxLen; omega) (by omega) (by have := B3.out.size; simp; omega) ?_; intro v4 w4 ho4 hg4 ha4; have O4 := hid ho4; have G4 := hid hg4; clear ho4 hg4 ha4)
          have B4 := hid ((B3.out.alloc B3.out.size (.cells #[.int .i64 (N : Nat), .bool false] 33)).grown G4.out (by have := B3.out.size; simp; omega) (fun k hk => (O3.out.lt k hk).1))
          have O5 := hid (show w4.ownsRow w.heap.size 33 2 v4 (ps ++ [(N, false)]).length (pcv (ps ++ [(N, false)])) from by
            rw [← pcv_snoc, List.length_append]
            exact O4.out)
          have E5 : Hid (Sp.sp (Sp.Xk cl kd) false false xs = (ps ++ [(N, false)]) ++ Sp.sp (Sp.Xk cl kd) false true (xs.drop (j + N))) := by
            rw [HE.out, List.append_assoc]
            rfl
          clear O4 G4 O3 B3
          go_wp2_with fail
          go_roundg (n - (j + N))
          case measure => omega
          case rel => exact ⟨j + N, true, ps ++ [(N, false)], rfl, by omega, by go_num, rfl, by simp; omega, E5, O5, B4⟩
        | false =>
          cases d with
          | true =>
            go_wp2_with (at_builtin; refine wpList_append_src rfl _ _ 26 rfl w.heap.size 33 i0 _ 2 16 Tryd.underlying26 hi0 hz0 hz1 hz2 rfl (by omega) _ ps.length (pcv ps) rfl (O3.out.alloc _) (some ⟨w3.heap.size, 0, none⟩) 1 1 [.int .i64 (N : Nat), .bool true] rfl (src_pc (N : Nat) true 33) (by unfold maxLen; omega) (by omega) (by have := B3.out.size; simp; omega) ?_; intro v4 w4 ho4 hg4 ha4; have O4 := hid ho4; have G4 := hid hg4; clear ho4 hg4 ha4)
            have B4 := hid ((B3.out.alloc B3.out.size (.cells #[.int .i64 (N : Nat), .bool true] 33)).grown G4.out (by have := B3.out.size; simp; omega) (fun k hk => (O3.out.lt k hk).1))
            have O5 := hid (show w4.ownsRow w.heap.size 33 2 v4 (ps ++ [(N, true)]).length (pcv (ps ++ [(N, true)])) from by
              rw [← pcv_snoc, List.length_append]
              exact O4.out)
            have E5 : Hid (Sp.sp (Sp.Xk cl kd) false false xs = (ps ++ [(N, true)]) ++ Sp.sp (Sp.Xk cl kd) false false (xs.drop (j + N))) := by
              rw [HE.out, List.append_assoc]
              rfl
            clear O4 G4 O3 B3
            go_wp2_with fail
            go_roundg (n - (j + N))
            case measure => omega
            case rel => exact ⟨j + N, false, ps ++ [(N, true)], rfl, by omega, by go_num, rfl, by simp; omega, E5, O5, B4⟩
          | false =>
            go_wp2_with (at_builtin; refine wpList_append_src rfl _ _ 26 rfl w.heap.size 33 i0 _ 2 16 Tryd.underlying26 hi0 hz0 hz1 hz2 rfl (by omega) _ ps.length (pcv ps) rfl (O3.out.alloc _) (some ⟨w3.heap.size, 0, none⟩) 1 1 [.int .i64 (N : Nat), .bool false] rfl (src_pc (N : Nat) false 33) (by unfold maxLen; omega) (by omega) (by have := B3.out.size; simp; omega) ?_; intro v4 w4 ho4 hg4 ha4; have O4 := hid ho4; have G4 := hid hg4; clear ho4 hg4 ha4)
            have B4 := hid ((B3.out.alloc B3.out.size (.cells #[.int .i64 (N : Nat), .bool false] 33)).grown G4.out (by have := B3.out.size; simp; omega) (fun k hk => (O3.out.lt k hk).1))
            have O5 := hid (show w4.ownsRow w.heap.size 33 2 v4 (ps ++ [(N, false)]).length (pcv (ps ++ [(N, false)])) from by
              rw [← pcv_snoc, List.length_append]
              exact O4.out)
            have E5 : Hid (Sp.sp (Sp.Xk cl kd) false false xs = (ps ++ [(N, false)]) ++ Sp.sp (Sp.Xk cl kd) false true (xs.drop (j + N))) := by
              rw [HE.out, List.append_assoc]
              rfl
            clear O4 G4 O3 B3
            go_wp2_with fail
            go_roundg (n - (j + N))
            case measure => omega
            case rel => exact ⟨j + N, true, ps ++ [(N, false)], rfl, by omega, by go_num, rfl, by simp; omega, E5, O5, B4⟩
    · have hjn : j = n := by omega
      have k1 : ¬ ((j : Int) < n) := by omega
      have hd : xs.drop j = [] := List.drop_of_length_le (by rw [HL.out]; omega)
      have h := HE.out
      rw [hd, Sp.sp_nil, List.append_nil] at h
      have HF := hid h
      clear hd h hjn
      go_wp2_with fail
      go_ret
      exact ⟨_, rfl, by rw [HF.out]; exact HO.out, HB.out⟩
set_option maxRecDepth 100000 in
set_option maxHeartbeats 3200000 in
theorem rsplit_calls {w : World} {ta a : Option Addr} {tn tc n c : Nat} {L H C : Nat → Int} {xs : Pr.Row} (kind : Int) (hT : Rs w ta tn tc L H C) (hX : Ir w a n c xs) (fin : Bool) (hn : n ≤ 100000) :
    Calls Tryd.prog 12 #[.int .i64 kind, .slice ta tn tc, .slice a n c, .bool fin] w fun e w' => PcOut w (Sp.cutL (Cl.of L H C tn) (Cl.may L H C tn) kind fin xs) e w' := by
  have O0 := hid (own_empty (w := w) (base := w.heap.size) (e := 33) (size := 2) w.heap.size rfl (Nat.le_refl _))
  have b0 := (Below.refl w.heap.size w).alloc (Nat.le_refl _) (.cells #[] 33)
  have B0 := hid b0
  have HT := hid (hT.below b0)
  have T0 := hid hT
  have X0 := hid hX
  clear hT hX b0
  by_cases hk0 : kind < 0
  · have HN := hid (Sp.cutL_no (cl := Cl.of L H C tn) (may := Cl.may L H C tn) (kind := kind) (fin := fin) (xs := xs) (fun h => by omega))
    go_enter Tryd.func12, Tryd.ntmps12
    go_wp2_with fail
    go_ret
    exact ⟨_, rfl, by rw [HN.out]; exact O0.out, B0.out⟩
  by_cases hk3 : 3 < kind
  · have HN := hid (Sp.cutL_no (cl := Cl.of L H C tn) (may := Cl.may L H C tn) (kind := kind) (fin := fin) (xs := xs) (fun h => by omega))
    go_enter Tryd.func12, Tryd.ntmps12
    go_wp2_with fail
    go_ret
    exact ⟨_, rfl, by rw [HN.out]; exact O0.out, B0.out⟩
  cases hm : Cl.may L H C tn with
  | false =>
    have HN := hid (Sp.cutL_no (cl := Cl.of L H C tn) (may := false) (kind := kind) (fin := fin) (xs := xs) (fun h => by cases h.2.2))
    have HM := hid hm
    clear hm
    go_enter Tryd.func12, Tryd.ntmps12
    go_wp2_with fail
    refine (rmay_calls ta tn tc L H C _ HT.out).mono ?_
    rintro e w1 ⟨rfl, b1⟩
    rw [HM.out]
    have O1 := hid (own_below O0.out b1)
    have B1 := hid (B0.out.trans (b1.mono B0.out.size))
    clear b1
    go_wp2_with fail
    go_ret
    exact ⟨_, rfl, by rw [HN.out]; exact O1.out, B1.out⟩
  | true =>
    obtain ⟨kd, rfl⟩ : ∃ kd : Nat, kind = kd := ⟨kind.toNat, by omega⟩
    have hk : kd ≤ 3 := by omega
    rw [Sp.cutL_yes (cl := Cl.of L H C tn) (fin := fin) (xs := xs) hk]
    cases fin with
    | true => exact rsplit_true kd hk T0.out X0.out hn hm
    | false => exact rsplit_false kd hk T0.out X0.out hn hm
end Go.Proofs.YtiheagkgpbkkfaaDoor
