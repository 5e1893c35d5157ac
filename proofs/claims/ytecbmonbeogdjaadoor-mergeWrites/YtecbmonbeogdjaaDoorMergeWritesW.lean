/-
  The walk of the law MergeWrites.
-/
import Derived.Test.YtecbmonbeogdjaaDoorMgE2
import Derived.Test.YtecbmonbeogdjaaDoorMgE3
import Derived.Test.YtecbmonbeogdjaaDoorMgF
import Derived.Test.YtecbmonbeogdjaaDoorMgS
namespace Go.Proofs.YtecbmonbeogdjaaDoor
open Go.RowKit
set_option linter.unusedVariables false

theorem file_lines {rs : Mg.Rows} {ps : Mg.Prs} (h : Mg.All rs) : (lns (mk (Mg.fileL rs ps))).length = rs.length + ps.length + 2 := by
  unfold Mg.fileL
  rw [Mg.lns_fileOf (Mg.linesL_no h), List.length_map]
  unfold Mg.linesL
  simp
  omega

set_option maxRecDepth 100000 in
set_option maxHeartbeats 3200000 in
theorem mergeWrites_calls (a : Option Addr) (n c : Nat) (rs : Mg.Rows) (ap : Option Addr) (m cp : Nat) (ps : Mg.Prs) (w : World) (h1 : Rw w a n c rs) (h2 : Pw w ap m cp ps) (ht : Tab w) :
    Calls Tryd.prog 3 #[.agg #[.slice a n c, .slice ap m cp]] w fun e w' => e = .returned (.bool true) ∧ Below w.heap.size w w' := by
  have hl := h1.len
  have hlp := h2.len
  have B0 := hid ((Below.refl w.heap.size w).alloc (Nat.le_refl _) (.cells #[.slice a n c, .slice ap m cp] 25))
  have X0 := hid (Bx2.new w 25 (.slice a n c) (.slice ap m cp))
  have H0 := hid (h1.below B0.out)
  have P0 := hid (h2.below B0.out)
  have T0 := hid (ht.below B0.out)
  clear h1 h2 ht
  go_enter Tryd.func3, Tryd.ntmps3
  go_wp2_with fail
  obtain ⟨W0, hW0⟩ : ∃ W0, w.alloc (.cells #[.slice a n c, .slice ap m cp] 25) = W0 := ⟨_, rfl⟩
  rw [hW0] at B0 X0 H0 P0 T0 ⊢
  obtain ⟨R, hR⟩ : ∃ R, w.heap.size = R := ⟨_, rfl⟩
  rw [hR] at X0
  simp only [hR]
  have HR := hid hR
  clear hW0 hR
  refine (great_calls 20 70 H0.out P0.out (by omega) (by omega)).mono ?_
  rintro e w1 ⟨ho, hb1⟩
  have D1 := hid hb1
  have B1 := hid (B0.out.trans (hb1.mono B0.out.size))
  have X1 := hid (X0.out.below hb1 X0.out.lt)
  clear hb1
  rcases ho.of with ⟨rfl, h⟩ | ⟨rfl, h⟩
  · clear ho h
    go_wp2_with fail
    refine (fixed08_calls _).mono ?_
    rintro e w2 ⟨rfl, hb2⟩
    have B2 := hid (B1.out.trans (hb2.mono B1.out.size))
    clear hb2
    go_wp2_with fail
    go_ret
    exact ⟨rfl, B2.out⟩
  have hsm := Classical.byContradiction fun hh => h hh
  have hn20 : n ≤ 20 := by have := hsm.1; omega
  have hm20 : m ≤ 20 := by have := hsm.2.1; omega
  clear ho h hsm
  have x0 := X1.out.cell0
  have x1 := X1.out.cell1
  go_wp2_with fail
  refine (mWrite_calls (H0.out.below D1.out) (P0.out.below D1.out) (T0.out.below D1.out)).mono ?_
  rintro e w2 ⟨ho, hb2⟩
  have D2 := hid (D1.out.trans (hb2.mono D1.out.size))
  have B2 := hid (B1.out.trans (hb2.mono B1.out.size))
  have X2 := hid (X1.out.below hb2 X1.out.lt)
  clear hb2 x0 x1 D1 B1 X1
  have x0 := X2.out.cell0
  have x1 := X2.out.cell1
  rcases ho with ⟨hA, a1, c1, rfl, s1⟩ | ⟨hA, rfl⟩
  · have HA := hid hA
    have S1 := hid s1
    clear hA s1
    obtain ⟨N, hN⟩ : ∃ N, (Mg.fileL rs ps).length = N := ⟨_, rfl⟩
    obtain ⟨X, hX⟩ : ∃ X, mk (Mg.fileL rs ps) = X := ⟨_, rfl⟩
    have hXs : X.size = N := by rw [← hX, mk_size, hN]
    have hN97 : N ≤ 9700 := by rw [← hN]; have := Mg.fileL_len HA.out.1 HA.out.2.1; omega
    have HX := hid hX
    rw [hN, hX] at S1
    rw [hN]
    have HS := hid (show str (bytesF X) N = X by rw [← hXs]; exact str_bytes X)
    clear hN hX hXs
    go_wp2_with fail
    refine (rmWrite_calls (H0.out.below D2.out) (P0.out.below D2.out) (by omega) (by omega)).mono ?_
    rintro e w3 ⟨ho, hb3⟩
    obtain rfl : e = .returned (.tuple #[.string X, .bool true]) := by
      rcases ho with ⟨_, rfl⟩ | ⟨h, _⟩
      · rw [HX.out]
      · exact absurd HA.out h
    have D3 := hid (D2.out.trans (hb3.mono D2.out.size))
    have B3 := hid (B2.out.trans (hb3.mono B2.out.size))
    have X3 := hid (X2.out.below hb3 X2.out.lt)
    have S3 := hid (S1.out.below hb3)
    have cv := run_convert_sl (P := Tryd.prog) w3 28 5 9 Tryd.underlying28 Tryd.underlying5 Tryd.underlying9 S3.out
    rw [HS.out] at cv
    have hXX : (X.toList == X.toList) = true := beq_self_eq_true _
    clear ho hb3 S1 x0 x1 D2 B2 X2
    go_wp2_with fail
    have hll := hid (file_lines (ps := ps) HA.out.1)
    have HFB := hid (Mg.file_back HA.out.1 HA.out.2.1)
    rw [HX.out] at hll HFB
    refine (mRead_calls a1 N c1 (bytesF X) _ (by omega) S3.out (by rw [HS.out, hll.out]; omega)).mono ?_
    rintro e w4 ⟨⟨rs4, ps4, ar, nr, cr, ap4, np, cp4, l4, e4, rfl, r4, p4, f4⟩, hb4⟩
    rw [HS.out] at f4
    obtain ⟨rfl, rfl, rfl, rfl⟩ := f4.one HFB.out
    obtain rfl : n = nr := hl.symm.trans r4.len
    obtain rfl : m = np := hlp.symm.trans p4.len
    have D4 := hid (D3.out.trans (hb4.mono D3.out.size))
    have B4 := hid (B3.out.trans (hb4.mono B3.out.size))
    have s4 := B4.out.size
    have s4' := D4.out.size
    have X4 := hid (((X3.out.below hb4 X3.out.lt).alloc (.cells #[.slice ar n cr, .slice ap4 m cp4] 25)).alloc (.cells #[.int .i64 0, .int .i64 0] 35))
    have U4 := hid ((Bx2.new w4 25 (.slice ar n cr) (.slice ap4 m cp4)).alloc (.cells #[.int .i64 0, .int .i64 0] 35))
    have Z4 := hid (Bx2.new (w4.alloc (.cells #[.slice ar n cr, .slice ap4 m cp4] 25)) 35 (.int .i64 0) (.int .i64 0))
    rw [World.size_alloc] at Z4
    have dw := hid (((Below.refl _ w4).alloc (Nat.le_refl _) (.cells #[.slice ar n cr, .slice ap4 m cp4] 25)).alloc (by simp) (.cells #[.int .i64 0, .int .i64 0] 35))
    have D5 := hid (D4.out.trans (dw.out.mono s4'))
    have B5 := hid (B4.out.trans (dw.out.mono s4))
    have R5 := hid (r4.below dw.out)
    have P5 := hid (p4.below dw.out)
    clear cv hb4 r4 p4 f4 S3 B3 X3 D3 hll HFB
    go_wp2_with fail
    refine (fixed08_calls _).mono ?_
    rintro e w6 ⟨rfl, hb6⟩
    have D6 := hid (D5.out.trans (hb6.mono D5.out.size))
    have B6 := hid (B5.out.trans (hb6.mono B5.out.size))
    have X6 := X4.out.below hb6 X4.out.lt
    have U6 := U4.out.below hb6 U4.out.lt
    have Z6 := Z4.out.below hb6 Z4.out.lt
    have x0 := X6.cell0
    have x1 := X6.cell1
    have u0 := U6.cell0
    have u1 := U6.cell1
    have z0 := Z6.cell0
    have z1 := Z6.cell1
    have R6 := hid (R5.out.below hb6)
    have P6 := hid (P5.out.below hb6)
    clear hb6 X6 U6 Z6
    go_wp2_with fail
    refine (msame_yes R6.out (H0.out.below D6.out) P6.out (P0.out.below D6.out) (by omega) (by omega)).mono ?_
    rintro e w7 ⟨rfl, hb7⟩
    have B7 := hid (B6.out.trans (hb7.mono B6.out.size))
    clear hb7
    go_wp2_with fail
    go_ret
    exact ⟨rfl, B7.out⟩
  · have HA := hid hA
    clear hA
    have S1 := hid (show Sl w2 none 0 0 (fun _ => 0) from ⟨Nat.le_refl _, Nat.zero_le _, fun i => by omega, fun _ => ⟨rfl, rfl⟩, fun h => absurd h (by omega)⟩)
    go_wp2_with fail
    refine (rmWrite_calls (H0.out.below D2.out) (P0.out.below D2.out) (by omega) (by omega)).mono ?_
    rintro e w3 ⟨ho, hb3⟩
    obtain rfl : e = .returned (.tuple #[.string ⟨#[]⟩, .bool false]) := by
      rcases ho with ⟨h, _⟩ | ⟨_, rfl⟩
      · exact absurd h HA.out
      · rfl
    have B3 := hid (B2.out.trans (hb3.mono B2.out.size))
    have S3 := hid (S1.out.below hb3)
    have cv := run_convert_sl (P := Tryd.prog) w3 28 5 9 Tryd.underlying28 Tryd.underlying5 Tryd.underlying9 S3.out
    rw [show str (fun _ => 0) 0 = ⟨#[]⟩ from rfl] at cv
    clear ho hb3 S1 x0 x1
    go_wp2_with fail
    refine (fixed08_calls _).mono ?_
    rintro e w4 ⟨rfl, hb4⟩
    have B4 := hid (B3.out.trans (hb4.mono B3.out.size))
    clear hb4
    go_wp2_with fail
    go_ret
    exact ⟨rfl, B4.out⟩
end Go.Proofs.YtecbmonbeogdjaaDoor
