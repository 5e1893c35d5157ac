/-
  A reader's kinds: none, blank, plain, wide.
-/
import Derived.Test.YtiheagkgpbkkfaaDoorScW4
namespace Go.Proofs.YtiheagkgpbkkfaaDoor
open Go.RowKit
set_option linter.unusedVariables false
section
variable {D : Dt} {X : Nat → Prop} {w : World} {k : Nat}
set_option maxRecDepth 100000 in
set_option maxHeartbeats 1600000 in
theorem none_calls (h : Rd D X w k) :
    Calls Tryd.prog 51 #[.pointer (some ⟨D.o, 0, none⟩)] w fun e w' => PieceR D X w k (D.ps.length, D.ps.length + 1) e w' := by
  have hs := h.small
  have hl := h.len
  have HR := hid h
  clear h
  go_enter Tryd.func51, Tryd.ntmps51
  go_wp2_with fail
  go_loopg [4] (D.ps.length) (fun r nv wr => ∃ n : Nat, r = D.ps.length - n ∧ nv = .int .i64 (n : Int) ∧ n ≤ D.ps.length ∧ Hid (Gone D X w k n wr))
  case atStart => exact ⟨0, rfl, rfl, by omega, hid ((Gone.refl HR.out).less (Nat.zero_le _))⟩
  case round =>
    obtain ⟨n, rfl, rfl, hn, HG⟩ := hrel
    obtain ⟨k1, a1, b1, R1, M1⟩ := HG.out
    have e2 : IntKind.i64.wrap ((n : Int) + 1) = n + 1 := i64_in (by omega) (by omega)
    have HC := hid (has_calls R1 n (by omega))
    have HA := hid a1
    have HBb := hid b1
    have HM := hid M1
    clear R1 M1 a1 b1 HG
    go_wp2_with fail
    refine HC.out.mono ?_
    rintro e w2 ⟨rfl, g2⟩
    by_cases hlt : n < D.ps.length
    · rw [(Dt.has_yes hlt).1]
      have HG := hid (g2.step HA.out HM.out (m' := n + 1) (.inl (by rw [(Dt.has_yes hlt).2]; exact Nat.le_refl _)))
      have HL := hid hlt
      clear g2 HC hlt
      go_wp2_with fail
      go_roundg (D.ps.length - (n + 1))
      case measure => have := HL.out; omega
      case rel => exact ⟨n + 1, rfl, by go_num, by have := HL.out; omega, HG⟩
    · rw [(Dt.has_no hlt).1]
      have HE := hid (show n = D.ps.length by omega)
      have HG := hid (g2.step HA.out HM.out (m' := n) (.inr HBb.out))
      clear g2 HC hlt
      go_wp2_with fail
      go_ret2
      unfold PieceR
      rw [← HE.out]
      exact ⟨ret_pair rfl (by omega), HG.out⟩
set_option maxRecDepth 100000 in
set_option maxHeartbeats 1600000 in
theorem blank_calls (h : Rd D X w k) (hm : Cl.may D.L D.H D.C D.tn = true) :
    Calls Tryd.prog 52 #[.pointer (some ⟨D.o, 0, none⟩)] w fun e w' => PieceR D X w k (Sc.word D.cl D.ps) e w' := by
  have hs := h.small
  have hl := h.len
  have HC := hid (gap_calls h)
  have hsp : Sc.sp D.cl D.ps ≤ D.ps.length := Sc.tw_le _ _
  have HB := hid (show Sc.word D.cl D.ps = Sc.more (Sc.sp D.cl D.ps + Sc.tw (Sc.isN D.cl) (D.ps.drop (Sc.sp D.cl D.ps))) from rfl)
  obtain ⟨S, hS⟩ : ∃ S, Sc.sp D.cl D.ps = S := ⟨_, rfl⟩
  rw [hS] at HC hsp HB
  have HRun := hid (show D.run [0, 1, 2] S = Sc.tw (Sc.isN D.cl) (D.ps.drop S) by unfold Dt.run; rw [Sc.any_no (D.cl_rg hm)])
  have hrl : Sc.tw (Sc.isN D.cl) (D.ps.drop S) ≤ D.ps.length := by
    have h4 : Sc.tw (Sc.isN D.cl) (D.ps.drop S) ≤ (D.ps.drop S).length := Sc.tw_le _ _
    rw [List.length_drop] at h4
    omega
  obtain ⟨N, hN⟩ : ∃ N, Sc.tw (Sc.isN D.cl) (D.ps.drop S) = N := ⟨_, rfl⟩
  rw [hN] at HRun HB hrl
  clear h hS hN
  have e1 : IntKind.i64.wrap ((S : Int) + N) = ((S + N : Nat) : Int) := by rw [i64_in (by omega) (by omega)]; omega
  obtain ⟨T, hT⟩ : ∃ T, S + N = T := ⟨_, rfl⟩
  rw [hT] at e1
  have e2 : IntKind.i64.wrap ((T : Int) + 1) = T + 1 := i64_in (by omega) (by omega)
  rw [hT] at HB
  have HT := hid hT
  clear hT
  go_enter Tryd.func52, Tryd.ntmps52
  go_wp2_with fail
  refine HC.out.mono ?_
  rintro e w1 ⟨rfl, g1⟩
  obtain ⟨k1, a1, b1, R1, M1⟩ := g1
  have HRR := hid R1
  have HA := hid a1
  have HBb := hid b1
  have HM := hid M1
  have HC := hid (run_calls (R1.laid (.cells #[.int .i64 0, .int .i64 1, .int .i64 2] 3)) w1.heap.size [0, 1, 2] 3 rfl (by omega) (heap_alloc_new w1 _) (.inr rfl) (by intro c hc; simp at hc; omega) S (by omega))
  rw [HRun.out] at HC
  have HMx := hid (show D.runM [0, 1, 2] S = if N = 0 then 0 else S + N by unfold Dt.runM; rw [HRun.out])
  clear R1 M1 a1 b1
  go_wp2_with fail
  refine HC.out.mono ?_
  rintro e w2 ⟨rfl, g2⟩
  have g3 := g2.unlaid HRR.out
  rw [HMx.out] at g3
  have HG := hid (show Gone D X w k T w2 from by
    have h1 := HBb.out
    have h2 := HT.out
    by_cases hz : N = 0
    · exact g3.step HA.out HM.out (.inr (by omega))
    · exact g3.step HA.out HM.out (.inl (by rw [if_neg hz]; omega)))
  clear g2 g3 HC
  go_wp2_with fail
  go_ret2
  unfold PieceR
  rw [HB.out]
  exact ⟨ret_pair rfl (by show (T : Int) + 1 = ((T + 1 : Nat) : Int); omega), HG.out⟩
/-- The classes that Plain asks for, in their order. -/
def plc : Nat → Int
  | 0 => 1
  | 1 => 2
  | _ => 0
theorem plc_pos (j : Nat) : 0 ≤ plc j := by
  match j with
  | 0 => exact (by decide)
  | 1 => exact (by decide)
  | n + 2 => exact Int.le_refl 0
theorem idx_plc (j : Nat) (hj : j < 3) (w : World) : (Instr.index 92 (.agg #[.int .i64 1, .int .i64 2, .int .i64 0]) (.int .i64 (j : Int))).run Tryd.prog w = .ok (.int .i64 (plc j)) w := by
  have h : j = 0 ∨ j = 1 ∨ j = 2 := by omega
  rcases h with rfl | rfl | rfl <;> rfl
theorem plain_led {cl : Int → Int} {l : List Int} {j : Nat} (hj : j < 3) (h0 : ¬ 0 < Sc.ending false l) (h : 0 < Sc.led cl (plc j) l) (hno : ∀ i, i < j → ¬ 0 < Sc.led cl (plc i) l) : Sc.plain cl l = Sc.more (Sc.led cl (plc j) l) := by
  have e0 : plc 0 = 1 := rfl
  have e1 : plc 1 = 2 := rfl
  have e2 : plc 2 = 0 := rfl
  unfold Sc.plain
  rw [if_neg h0]
  have hc : j = 0 ∨ j = 1 ∨ j = 2 := by omega
  rcases hc with rfl | rfl | rfl
  · rw [e0] at h ⊢; rw [if_pos h]
  · have n0 := hno 0 (by omega)
    rw [e0] at n0; rw [e1] at h ⊢
    rw [if_neg n0, if_pos h]
  · have n0 := hno 0 (by omega)
    have n1 := hno 1 (by omega)
    rw [e0] at n0; rw [e1] at n1; rw [e2] at h ⊢
    rw [if_neg n0, if_neg n1, if_pos h]
theorem plain_none {cl : Int → Int} {l : List Int} (h0 : ¬ 0 < Sc.ending false l) (hno : ∀ i, i < 3 → ¬ 0 < Sc.led cl (plc i) l) : Sc.plain cl l = Sc.blanks cl l := by
  have n0 : ¬ 0 < Sc.led cl 1 l := hno 0 (by omega)
  have n1 : ¬ 0 < Sc.led cl 2 l := hno 1 (by omega)
  have n2 : ¬ 0 < Sc.led cl 0 l := hno 2 (by omega)
  unfold Sc.plain
  rw [if_neg h0, if_neg n0, if_neg n1, if_neg n2]
theorem led_le (cl : Int → Int) (c : Int) (l : List Int) : Sc.led cl c l ≤ l.length + 1 := by
  have h1 : Sc.rn cl c l ≤ l.length := Sc.tw_le _ _
  have h2 : Sc.rn cl c (l.drop 1) ≤ (l.drop 1).length := Sc.tw_le _ _
  rw [List.length_drop] at h2
  unfold Sc.led
  split <;> omega
set_option maxRecDepth 100000 in
set_option maxHeartbeats 1600000 in
theorem rplain_calls (h : Rd D X w k) (hE : Ends D.W) :
    Calls Tryd.prog 53 #[.pointer (some ⟨D.o, 0, none⟩)] w fun e w' => PieceR D X w k (Sc.plain D.cl D.ps) e w' := by
  have hs := h.small
  have hl := h.len
  have HC := hid (rending_calls h hE false)
  have HP := hid (show Sc.plain D.cl D.ps = if 0 < Sc.ending false D.ps then (Sc.ending false D.ps, Sc.ending false D.ps) else (if 0 < Sc.led D.cl 1 D.ps then Sc.more (Sc.led D.cl 1 D.ps) else if 0 < Sc.led D.cl 2 D.ps then Sc.more (Sc.led D.cl 2 D.ps) else if 0 < Sc.led D.cl 0 D.ps then Sc.more (Sc.led D.cl 0 D.ps) else Sc.blanks D.cl D.ps) from rfl)
  obtain ⟨E, hEE⟩ : ∃ E, Sc.ending false D.ps = E := ⟨_, rfl⟩
  have HEE := hid hEE
  rw [hEE] at HC HP
  clear h hE hEE
  go_enter Tryd.func53, Tryd.ntmps53
  go_wp2_with fail
  refine HC.out.mono ?_
  rintro e w1 ⟨rfl, g1⟩
  have G1 := hid g1
  clear g1 HC
  by_cases h0 : 0 < E
  · have k0 : (0 : Int) < E := by omega
    have HE := hid (show Sc.plain D.cl D.ps = (E, E) by rw [HP.out, if_pos h0])
    clear HP
    go_wp2_with fail
    go_ret2
    unfold PieceR
    rw [HE.out]
    exact ⟨rfl, G1.out⟩
  · have k0 : ¬ (0 : Int) < E := by omega
    have HN := hid (show ¬ 0 < Sc.ending false D.ps by rw [HEE.out]; exact h0)
    clear HP
    go_wp2_with fail
    go_loopg [15] 3 (fun r jv wr => ∃ j : Nat, r = 3 - j ∧ jv = .int .i64 (j : Int) ∧ j ≤ 3 ∧ Hid (∀ i, i < j → ¬ 0 < Sc.led D.cl (plc i) D.ps) ∧ Hid (Gone D X w k 0 wr))
    case atStart => exact ⟨0, rfl, rfl, by omega, hid (fun i hi => by omega), hid (G1.out.less (Nat.zero_le _))⟩
    case round =>
      obtain ⟨j, rfl, rfl, hj, HT, HG⟩ := hrel
      obtain ⟨k1, a1, b1, R1, M1⟩ := HG.out
      have e2 : IntKind.i64.wrap ((j : Int) + 1) = j + 1 := i64_in (by omega) (by omega)
      have HA := hid a1
      have HM := hid M1
      have HR := hid R1
      by_cases hlt : j < 3
      · have k3 : (j : Int) < 3 := by omega
        have hix := idx_plc j hlt wr
        have HC := hid (behindBlank_calls R1 (plc j) (plc_pos j))
        have HJ := hid hlt
        have hle := led_le D.cl (plc j) D.ps
        obtain ⟨c, hc⟩ : ∃ c, plc j = c := ⟨_, rfl⟩
        have HCC := hid hc
        rw [hc] at hix HC hle
        obtain ⟨n, hn⟩ : ∃ n, Sc.led D.cl c D.ps = n := ⟨_, rfl⟩
        have HNN := hid hn
        rw [hn] at HC hle
        have e3 : IntKind.i64.wrap ((n : Int) + 1) = n + 1 := i64_in (by omega) (by omega)
        clear R1 M1 a1 b1 hc hn HG
        go_wp2_with fail
        refine HC.out.mono ?_
        rintro e w2 ⟨rfl, g2⟩
        by_cases hpos : 0 < n
        · have k1 : (0 : Int) < n := by omega
          have HE := hid (show Sc.plain D.cl D.ps = (n, n + 1) by rw [plain_led HJ.out HN.out (by rw [HCC.out, HNN.out]; exact hpos) HT.out, HCC.out, HNN.out]; rfl)
          have HG := hid (g2.step HA.out HM.out (m' := n) (.inl (Nat.le_refl _)))
          clear g2 HC HT
          go_wp2_with fail
          go_ret2
          unfold PieceR
          rw [HE.out]
          exact ⟨ret_pair rfl (by omega), HG.out⟩
        · have k1 : ¬ (0 : Int) < n := by omega
          have HT2 := hid (show ∀ i, i < j + 1 → ¬ 0 < Sc.led D.cl (plc i) D.ps from fun i hi => by
            rcases Nat.lt_succ_iff_lt_or_eq.1 hi with h | rfl
            · exact HT.out i h
            · rw [HCC.out, HNN.out]; exact hpos)
          have HG := hid (g2.step HA.out HM.out (m' := 0) (.inl (Nat.zero_le _)))
          clear g2 HC HT
          go_wp2_with fail
          go_roundg (3 - (j + 1))
          case measure => have := HJ.out; omega
          case rel => exact ⟨j + 1, rfl, by go_num, by have := HJ.out; omega, HT2, HG⟩
      · have k3 : ¬ (j : Int) < 3 := by omega
        have HE := hid (plain_none (cl := D.cl) HN.out (fun i hi => HT.out i (by omega)))
        clear R1 M1 a1 b1 HT HG
        go_wp2_with fail
        refine (spaces'_calls HR.out).mono ?_
        rintro e w2 ⟨rfl, g2⟩
        have HG := hid (g2.step HA.out HM.out (m' := (Sc.blanks D.cl D.ps).1) (.inl (Nat.le_refl _)))
        clear g2
        go_wp2_with fail
        go_ret2
        unfold PieceR
        rw [HE.out]
        exact ⟨rfl, HG.out⟩
set_option maxRecDepth 100000 in
set_option maxHeartbeats 1600000 in
theorem rwide_calls (h : Rd D X w k) (hE : Ends D.W) (hm : Cl.may D.L D.H D.C D.tn = true) :
    Calls Tryd.prog 54 #[.pointer (some ⟨D.o, 0, none⟩)] w fun e w' => PieceR D X w k (Sc.wide D.cl D.ps) e w' := by
  have hs := h.small
  have hl := h.len
  have HC := hid (rending_calls h hE true)
  have HP := hid (Sc.wide_alt (D.cl_rg hm) h.ne)
  have hle0 := led_le D.cl 0 D.ps
  have hlt : Sc.lett D.cl D.ps ≤ D.ps.length + 1 := by
    have h1 : Sc.rn D.cl 1 D.ps ≤ D.ps.length := Sc.tw_le _ _
    have h2 : Sc.rn D.cl 1 (D.ps.drop 1) ≤ (D.ps.drop 1).length := Sc.tw_le _ _
    rw [List.length_drop] at h2
    unfold Sc.lett
    split <;> omega
  have hth : Sc.three D.cl D.ps ≤ 3 := Nat.min_le_left _ _
  have hsp : Sc.sp D.cl D.ps ≤ D.ps.length := Sc.tw_le _ _
  have hrl : Sc.rn D.cl 4 (D.ps.drop (Sc.led D.cl 0 D.ps)) ≤ D.ps.length := by
    have h4 : Sc.rn D.cl 4 (D.ps.drop (Sc.led D.cl 0 D.ps)) ≤ (D.ps.drop (Sc.led D.cl 0 D.ps)).length := Sc.tw_le _ _
    rw [List.length_drop] at h4
    omega
  have hll : Sc.lastL D.cl (Sc.sp D.cl D.ps) D.ps ≤ Sc.sp D.cl D.ps := Sc.lastL_le _ _
  obtain ⟨E, hEE⟩ : ∃ E, Sc.ending true D.ps = E := ⟨_, rfl⟩
  rw [hEE] at HC HP
  obtain ⟨T, hT⟩ : ∃ T, Sc.lett D.cl D.ps = T := ⟨_, rfl⟩
  have HT := hid hT
  rw [hT] at HP hlt
  obtain ⟨U, hU⟩ : ∃ U, Sc.three D.cl D.ps = U := ⟨_, rfl⟩
  have HU := hid hU
  rw [hU] at HP hth
  obtain ⟨V, hV⟩ : ∃ V, Sc.led D.cl 0 D.ps = V := ⟨_, rfl⟩
  have HV := hid hV
  rw [hV] at HP hle0 hrl
  obtain ⟨Y, hY⟩ : ∃ Y, Sc.rn D.cl 4 (D.ps.drop V) = Y := ⟨_, rfl⟩
  have HY := hid hY
  rw [hY] at HP hrl
  obtain ⟨S, hS⟩ : ∃ S, Sc.sp D.cl D.ps = S := ⟨_, rfl⟩
  have HS := hid hS
  rw [hS] at HP hsp hll
  obtain ⟨Z, hZ⟩ : ∃ Z, Sc.lastL D.cl S D.ps = Z := ⟨_, rfl⟩
  have HZ := hid hZ
  rw [hZ] at HP hll
  have e1 : IntKind.i64.wrap ((T : Int) + 1) = T + 1 := i64_in (by omega) (by omega)
  have e2 : IntKind.i64.wrap ((U : Int) + 1) = U + 1 := i64_in (by omega) (by omega)
  have e3 : IntKind.i64.wrap ((V : Int) + Y) = ((V + Y : Nat) : Int) := by rw [i64_in (by omega) (by omega)]; omega
  obtain ⟨VY, hVY⟩ : ∃ VY, V + Y = VY := ⟨_, rfl⟩
  have HVY := hid hVY
  rw [hVY] at e3 HP
  have e4 : IntKind.i64.wrap ((VY : Int) + 1) = VY + 1 := i64_in (by omega) (by omega)
  have e5 : IntKind.i64.wrap ((S : Int) + 1) = S + 1 := i64_in (by omega) (by omega)
  clear h hE hEE hT hU hV hY hS hZ hVY
  go_enter Tryd.func54, Tryd.ntmps54
  go_wp2_with fail
  refine HC.out.mono ?_
  rintro e w1 ⟨rfl, g1⟩
  clear HC
  by_cases h0 : 0 < E
  · have k0 : (0 : Int) < E := by omega
    have HE := hid (show Sc.wide D.cl D.ps = (E, E) by rw [HP.out, if_pos h0])
    have HG := hid g1
    clear HP g1
    go_wp2_with fail
    go_ret2
    unfold PieceR
    rw [HE.out]
    exact ⟨rfl, HG.out⟩
  have k0 : ¬ (0 : Int) < E := by omega
  rw [if_neg h0] at HP
  obtain ⟨k1, a1, _, R1, M1⟩ := g1
  have HC := hid (letters_calls R1)
  rw [HT.out] at HC
  have HA := hid a1
  have HM := hid M1
  clear R1 M1 a1
  go_wp2_with fail
  refine HC.out.mono ?_
  rintro e w2 ⟨rfl, g2⟩
  clear HC
  by_cases h1 : 0 < T
  · have k1 : (0 : Int) < T := by omega
    have HE := hid (show Sc.wide D.cl D.ps = (T, T + 1) by rw [HP.out, if_pos h1]; rfl)
    have HG := hid (g2.step HA.out HM.out (m' := T) (.inl (Nat.le_refl _)))
    clear HP g2
    go_wp2_with fail
    go_ret2
    unfold PieceR
    rw [HE.out]
    exact ⟨ret_pair rfl (by omega), HG.out⟩
  have k1 : ¬ (0 : Int) < T := by omega
  rw [if_neg h1] at HP
  obtain ⟨k2, a2, _, R2, M2⟩ := g2
  have HA2 := hid (Nat.le_trans HA.out a2)
  have HM2 := hid (HM.out.trans M2 (fun _ _ e => e))
  have HC := hid (numbers_calls R2)
  rw [HU.out] at HC
  clear R2 M2 a2 HA HM
  go_wp2_with fail
  refine HC.out.mono ?_
  rintro e w3 ⟨rfl, g3⟩
  clear HC
  by_cases h2 : 0 < U
  · have k2 : (0 : Int) < U := by omega
    have HE := hid (show Sc.wide D.cl D.ps = (U, min (U + 1) 3) by rw [HP.out, if_pos h2])
    have HG := hid (g3.step HA2.out HM2.out (m' := U) (.inl (Nat.le_refl _)))
    clear HP g3
    by_cases h33 : 3 < U + 1
    · have k33 : (3 : Int) < (U : Int) + 1 := by omega
      go_wp2_with fail
      all_goals first
        | (exfalso; omega)
        | skip
      go_ret2
      unfold PieceR
      rw [HE.out]
      exact ⟨ret_pair rfl (by show (3 : Int) = ((min (U + 1) 3 : Nat) : Int); omega), HG.out⟩
    · have k33 : ¬ (3 : Int) < (U : Int) + 1 := by omega
      go_wp2_with fail
      all_goals first
        | (exfalso; omega)
        | skip
      all_goals
        go_ret2
        unfold PieceR
        rw [HE.out]
        exact ⟨ret_pair rfl (by simp only; omega), HG.out⟩
  have k2 : ¬ (0 : Int) < U := by omega
  rw [if_neg h2] at HP
  obtain ⟨k3, a3, _, R3, M3⟩ := g3
  have HA3 := hid (Nat.le_trans HA2.out a3)
  have HM3 := hid (HM2.out.trans M3 (fun _ _ e => e))
  have HC := hid (behindBlank_calls R3 0 (by omega))
  rw [HV.out] at HC
  clear R3 M3 a3 HA2 HM2
  go_wp2_with fail
  refine HC.out.mono ?_
  rintro e w4 ⟨rfl, g4⟩
  clear HC
  by_cases h3 : 0 < V
  · have k3 : (0 : Int) < V := by omega
    have HE := hid (show Sc.wide D.cl D.ps = (VY, VY + 1) by rw [HP.out, if_pos h3]; rfl)
    obtain ⟨k4, a4, b4, R4, M4⟩ := g4
    have HA4 := hid (Nat.le_trans HA3.out a4)
    have HB4 := hid b4
    have HM4 := hid (HM3.out.trans M4 (fun _ _ e => e))
    have HC := hid (run1_calls R4 4 (by omega) V (by omega) w4.heap.size rfl)
    rw [HY.out] at HC
    clear HP R4 M4 a4 b4
    go_wp2_with fail
    refine HC.out.mono ?_
    rintro e w5 ⟨rfl, g5⟩
    have HG := hid (show Gone D X w k VY w5 from by
      have q1 := HB4.out
      have q2 := HVY.out
      by_cases hz : Y = 0
      · exact g5.step HA4.out HM4.out (.inr (by omega))
      · exact g5.step HA4.out HM4.out (.inl (by rw [if_neg hz]; omega)))
    clear g5 HC
    go_wp2_with fail
    go_ret2
    unfold PieceR
    rw [HE.out]
    exact ⟨ret_pair rfl (by omega), HG.out⟩
  have k3 : ¬ (0 : Int) < V := by omega
  rw [if_neg h3] at HP
  obtain ⟨k4, a4, _, R4, M4⟩ := g4
  have HA4 := hid (Nat.le_trans HA3.out a4)
  have HM4 := hid (HM3.out.trans M4 (fun _ _ e => e))
  have HC := hid (lines_calls R4)
  rw [HS.out, HZ.out] at HC
  clear R4 M4 a4 HA3 HM3
  go_wp2_with fail
  refine HC.out.mono ?_
  rintro e w5 ⟨rfl, g5⟩
  clear HC
  obtain ⟨k5, a5, b5, R5, M5⟩ := g5
  have HA5 := hid (Nat.le_trans HA4.out a5)
  have HB5 := hid b5
  have HM5 := hid (HM4.out.trans M5 (fun _ _ e => e))
  have HR5 := hid R5
  clear R5 M5 a5 b5 HA4 HM4
  by_cases h4 : 0 < Z
  · have k4 : (0 : Int) < Z := by omega
    have HE := hid (show Sc.wide D.cl D.ps = (Z, S + 1) by rw [HP.out, if_pos h4])
    have HC := hid (gap_calls HR5.out)
    rw [HS.out] at HC
    clear HP
    go_wp2_with fail
    refine HC.out.mono ?_
    rintro e w6 ⟨rfl, g6⟩
    have HG := hid (g6.step HA5.out HM5.out (m' := Z) (.inr HB5.out))
    clear g6 HC
    go_wp2_with fail
    go_ret2
    unfold PieceR
    rw [HE.out]
    exact ⟨ret_pair rfl (by omega), HG.out⟩
  have k4 : ¬ (0 : Int) < Z := by omega
  rw [if_neg h4] at HP
  have HC := hid (spaces'_calls HR5.out)
  go_wp2_with fail
  refine HC.out.mono ?_
  rintro e w6 ⟨rfl, g6⟩
  have HG := hid (g6.step HA5.out HM5.out (m' := (Sc.blanks D.cl D.ps).1) (.inl (Nat.le_refl _)))
  clear g6 HC
  go_wp2_with fail
  go_ret2
  unfold PieceR
  rw [HP.out]
  exact ⟨rfl, HG.out⟩
end
end Go.Proofs.YtiheagkgpbkkfaaDoor
