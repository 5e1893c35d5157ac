/-
  The walk of the law MergeParts.
-/
import Derived.Test.YtecbmonbeogdjaaDoorMgE1
import Derived.Test.YtecbmonbeogdjaaDoorMgE3
import Derived.Test.YtecbmonbeogdjaaDoorMgF
import Derived.Test.YtecbmonbeogdjaaDoorMgS
import Derived.Test.YtecbmonbeogdjaaDoorMgCut
namespace Go.Proofs.YtecbmonbeogdjaaDoor
open Go.RowKit
set_option linter.unusedVariables false

set_option maxRecDepth 100000 in
set_option maxHeartbeats 3200000 in
theorem mergeParts_calls (a : Option Addr) (n c : Nat) (rs : Mg.Rows) (ap : Option Addr) (m cp : Nat) (ps : Mg.Prs) (cut : Int) (hc0 : 0 ≤ cut) (hc1 : cut ≤ 255) (w : World) (h1 : Rw w a n c rs) (h2 : Pw w ap m cp ps) (ht : Tab w) :
    Calls Tryd.prog 4 #[.agg #[.slice a n c, .slice ap m cp], .int .u8 cut] w fun e w' => e = .returned (.bool true) ∧ Below w.heap.size w w' := by
  have hl := h1.len
  have hlp := h2.len
  have B0 := hid ((Below.refl w.heap.size w).alloc (Nat.le_refl _) (.cells #[.slice a n c, .slice ap m cp] 25))
  have X0 := hid (Bx2.new w 25 (.slice a n c) (.slice ap m cp))
  have H0 := hid (h1.below B0.out)
  have P0 := hid (h2.below B0.out)
  have T0 := hid (ht.below B0.out)
  clear h1 h2 ht
  go_enter Tryd.func4, Tryd.ntmps4
  go_wp2_with fail
  obtain ⟨W0, hW0⟩ : ∃ W0, w.alloc (.cells #[.slice a n c, .slice ap m cp] 25) = W0 := ⟨_, rfl⟩
  rw [hW0] at B0 X0 H0 P0 T0 ⊢
  obtain ⟨R, hR⟩ : ∃ R, w.heap.size = R := ⟨_, rfl⟩
  rw [hR] at X0
  simp only [hR]
  clear hW0 hR
  refine (mWrite_calls H0.out P0.out T0.out).mono ?_
  rintro e w1 ⟨ho, hb1⟩
  have D1 := hid hb1
  have B1 := hid (B0.out.trans (hb1.mono B0.out.size))
  have X1 := hid (X0.out.below hb1 X0.out.lt)
  have x0 := X1.out.cell0
  have x1 := X1.out.cell1
  clear hb1
  rcases ho with ⟨hA, a1, c1, rfl, s1⟩ | ⟨hA, rfl⟩
  rotate_left
  · go_wp2_with fail
    refine (great_calls 20 64 (H0.out.below D1.out) (P0.out.below D1.out) (by omega) (by omega)).mono ?_
    rintro e w2 ⟨ho, hb2⟩
    have B2 := hid (B1.out.trans (hb2.mono B1.out.size))
    clear hb2
    rcases ho.of with ⟨rfl, h⟩ | ⟨rfl, h⟩
    · clear ho h
      go_wp2_with fail
      refine (fixed08_calls _).mono ?_
      rintro e w3 ⟨rfl, hb3⟩
      have B3 := hid (B2.out.trans (hb3.mono B2.out.size))
      clear hb3
      go_wp2_with fail
      go_ret
      exact ⟨rfl, B3.out⟩
    · clear ho h
      go_wp2_with fail
      refine (fixed08_calls _).mono ?_
      rintro e w3 ⟨rfl, hb3⟩
      have B3 := hid (B2.out.trans (hb3.mono B2.out.size))
      clear hb3
      go_wp2_with fail
      go_ret
      exact ⟨rfl, B3.out⟩
  have HA := hid hA
  have S1 := hid s1
  clear hA s1
  obtain ⟨N, hN⟩ : ∃ N, (Mg.fileL rs ps).length = N := ⟨_, rfl⟩
  rw [hN] at S1 ⊢
  have HN := hid hN
  have hfl := Mg.fileL_len HA.out.1 HA.out.2.1
  rw [hN] at hfl
  clear hN
  go_wp2_with fail
  refine (great_calls 20 64 (H0.out.below D1.out) (P0.out.below D1.out) (by omega) (by omega)).mono ?_
  rintro e w2 ⟨ho, hb2⟩
  have D2 := hid (D1.out.trans (hb2.mono D1.out.size))
  have B2 := hid (B1.out.trans (hb2.mono B1.out.size))
  have X2 := hid (X1.out.below hb2 X1.out.lt)
  have S2 := hid (S1.out.below hb2)
  clear hb2 x0 x1 D1 B1 X1 S1
  rcases ho.of with ⟨rfl, h⟩ | ⟨rfl, h⟩
  · clear ho h
    go_wp2_with fail
    refine (fixed08_calls _).mono ?_
    rintro e w3 ⟨rfl, hb3⟩
    have B3 := hid (B2.out.trans (hb3.mono B2.out.size))
    clear hb3
    go_wp2_with fail
    go_ret
    exact ⟨rfl, B3.out⟩
  have hsm := Classical.byContradiction fun hh => h hh
  have hn20 : n ≤ 20 := by have := hsm.1; omega
  have hm20 : m ≤ 20 := by have := hsm.2.1; omega
  have hN9 : N ≤ 9700 := by omega
  clear ho h hsm hfl
  obtain ⟨k, hk⟩ : ∃ k : Nat, k = cut.toNat % (n + m + 2) := ⟨_, rfl⟩
  have hkn : k < n + m + 2 := by have := Nat.mod_lt cut.toNat (show 0 < n + m + 2 by omega); omega
  have e1 : IntKind.i64.wrap cut = cut := i64_in (by omega) (by omega)
  have e2 : IntKind.i64.wrap ((n : Int) + m) = (n : Int) + m := i64_in (by omega) (by omega)
  have e4 : IntKind.i64.wrap ((n : Int) + m + 2) = (n : Int) + m + 2 := i64_in (by omega) (by omega)
  have e3 : cut.tmod ((n : Int) + m + 2) = k := by
    obtain ⟨u, hu⟩ := Int.eq_ofNat_of_zero_le hc0
    rw [Int.tmod_eq_emod_of_nonneg hc0, hk, hu, show ((n : Int) + m + 2) = ((n + m + 2 : Nat) : Int) by omega, ← Int.natCast_emod]
    rfl
  have hnz : ¬ ((n : Int) + m + 2) = 0 := by omega
  clear hk
  obtain ⟨A', Z, hA1, hA2, hA3⟩ := Mg.cut_at (Mg.linesL_no (ps := ps) HA.out.1) (k := k) (by rw [Mg.linesL_length]; omega)
  have HA1 := hid hA1
  have HA3 := hid (show Mg.fileL rs ps = (A' ++ [10]) ++ Z from hA3)
  have hAN : A'.length + 1 ≤ N := by rw [← HN.out, HA3.out]; simp
  have HC := hid hA2
  clear hA1 hA2 hA3
  have x0 := X2.out.cell0
  have x1 := X2.out.cell1
  have hcl := S2.out.le
  obtain ⟨b1, o1, rfl, hbl, hcb⟩ := S2.out.at' (by omega)
  have HCB := hid hcb
  clear hcb
  go_wp2_with fail
  go_loopg [8, 9] (A'.length + 1) (fun r av lv wr => ∃ i : Nat, r = A'.length + 1 - i ∧ i ≤ A'.length + 1 ∧ av = .int .i64 i ∧ lv = .int .i64 (Mg.lfs (A' ++ [10]) i : Nat) ∧ w2 = wr)
  case atStart => exact ⟨0, rfl, by omega, rfl, rfl, rfl⟩
  case round =>
    obtain ⟨i, rfl, hi, rfl, rfl, rfl⟩ := hrel
    by_cases hlt : i < A'.length + 1
    · have k1 : (i : Int) < N := by omega
      have k0 : (0 : Int) ≤ i := by omega
      have g1 := Mg.lfs_le (A' := A') (i := i) (by omega)
      rw [HC.out] at g1
      have g2 := Mg.lfs_step (A := A' ++ [10]) (i := i) (by simpa using hlt)
      obtain ⟨q, hq⟩ : ∃ q, Mg.lfs (A' ++ [10]) i = q := ⟨_, rfl⟩
      rw [hq] at g1 g2 ⊢
      have g3 : (q : Int) ≤ k := by omega
      have e5 : IntKind.i64.wrap ((i : Int) + 1) = i + 1 := i64_in (by omega) (by omega)
      have e6 : IntKind.i64.wrap ((q : Int) + 1) = q + 1 := i64_in (by omega) (by omega)
      have hb := HCB.out i (by omega)
      rw [HA3.out, Rk.bytes_mk, Mg.gF_app (by simpa using hlt)] at hb
      by_cases h10 : (A' ++ [10]).getD i 0 = 10
      · rw [if_pos h10] at g2
        rw [h10] at hb
        have hb' : w2.cell? ⟨b1, o1 + i, none⟩ = some (.int .u8 10) := hb
        have HG := hid g2
        clear g2 h10 hb hq
        go_wp2_with fail
        go_roundg (A'.length + 1 - (i + 1))
        case measure => omega
        case rel => exact ⟨i + 1, rfl, by omega, by go_num, by rw [HG.out]; go_num, rfl⟩
      · rw [if_neg h10] at g2
        obtain ⟨y, hy⟩ : ∃ y, (A' ++ [10]).getD i 0 = y := ⟨_, rfl⟩
        rw [hy] at hb h10
        have h11 : ¬ (y.toNat : Int) = 10 := fun e => h10 (UInt8.toNat_inj.1 (by show y.toNat = 10; omega))
        obtain ⟨z, hz⟩ : ∃ z : Int, (y.toNat : Int) = z := ⟨_, rfl⟩
        rw [hz] at hb h11
        have HG := hid g2
        clear g2 h10 hz hy hq
        go_wp2_with fail
        go_roundg (A'.length + 1 - (i + 1))
        case measure => omega
        case rel => exact ⟨i + 1, rfl, by omega, by go_num, by rw [HG.out]; rfl, rfl⟩
    · obtain rfl : i = A'.length + 1 := by omega
      have g1 := Mg.lfs_all A'
      rw [HC.out] at g1
      rw [g1]
      have g3 : ¬ (((k + 1 : Nat) : Int)) ≤ k := by omega
      have HST := hid (show str (bytesF (mk (Mg.fileL rs ps))) (A'.length + 1) = mk (Mg.fileOf ((Mg.linesL rs ps).take (k + 1))) by
        rw [HA3.out, HA1.out]
        have := Mg.str_first (A := A' ++ [10]) (Z := Z)
        rw [List.length_append] at this
        exact this)
      obtain ⟨M, hM⟩ : ∃ M, A'.length + 1 = M := ⟨_, rfl⟩
      rw [hM] at HST hAN ⊢
      have S3 := hid (S2.out.first M (by omega))
      have g4 : (0 : Int) ≤ M := by omega
      have g5 : (M : Int) ≤ c1 := by omega
      have hLN := hid (show (lns (mk (Mg.fileOf ((Mg.linesL rs ps).take (k + 1))))).length ≤ 4096 by
        rw [Mg.lns_fileOf (fun l hl => Mg.linesL_no HA.out.1 l (List.mem_of_mem_take hl)), List.length_map, List.length_take]
        omega)
      clear g1 hM
      go_wp2_with fail
      refine (mRead_calls _ M c1 (bytesF (mk (Mg.fileL rs ps))) _ (by omega) S3.out (by rw [HST.out]; exact hLN.out)).mono ?_
      rintro e w3 ⟨⟨rs3, ps3, ar, nr, cr, ap3, np, cp3, l3, e3, rfl, r3, p3, f3⟩, hb3⟩
      rw [HST.out] at f3
      have D3 := hid (D2.out.trans (hb3.mono D2.out.size))
      have B3 := hid (B2.out.trans (hb3.mono B2.out.size))
      have s3 := B3.out.size
      have s3' := D3.out.size
      have X3 := hid (X2.out.below hb3 X2.out.lt)
      clear hb3 x0 x1 g3 g4 g5
      by_cases hkr : k ≤ n
      · have hkr' : (k : Int) ≤ n := by omega
        rw [Mg.take_short (by omega)] at f3
        have hlk : (rs.take k).length = k := by rw [List.length_take]; omega
        have hfl := Mg.file_lack (HA.out.1.take k)
        rw [hlk] at hfl
        obtain ⟨rfl, rfl, rfl, rfl⟩ := f3.one hfl
        obtain rfl : 0 = nr := r3.len
        obtain rfl : 0 = np := p3.len
        have e7 : IntKind.i64.wrap ((k : Int) + 2) = k + 2 := i64_in (by omega) (by omega)
        have X4 := hid ((X3.out.alloc (.cells #[.slice ar 0 cr, .slice ap3 0 cp3] 25)).alloc (.cells #[.int .i64 ((k : Int) + 2), .int .i64 2] 35))
        have U4 := hid ((Bx2.new w3 25 (.slice ar 0 cr) (.slice ap3 0 cp3)).alloc (.cells #[.int .i64 ((k : Int) + 2), .int .i64 2] 35))
        have Z4 := hid (Bx2.new (w3.alloc (.cells #[.slice ar 0 cr, .slice ap3 0 cp3] 25)) 35 (.int .i64 ((k : Int) + 2)) (.int .i64 2))
        rw [World.size_alloc] at Z4
        have B4 := hid ((B3.out.alloc s3 (.cells #[.slice ar 0 cr, .slice ap3 0 cp3] 25)).alloc (by simp; omega) (.cells #[.int .i64 ((k : Int) + 2), .int .i64 2] 35))
        have x0 := X4.out.cell0
        clear r3 p3 f3 hfl hlk
        go_wp2_with fail
        refine (fixed08_calls _).mono ?_
        rintro e w6 ⟨rfl, hb6⟩
        have B6 := hid (B4.out.trans (hb6.mono B4.out.size))
        have U6 := U4.out.below hb6 U4.out.lt
        have Z6 := Z4.out.below hb6 Z4.out.lt
        have u0 := U6.cell0
        have u1 := U6.cell1
        have z0 := Z6.cell0
        have z1 := Z6.cell1
        clear hb6 U6 Z6 x0
        go_wp2_with fail
        go_ret
        exact ⟨rfl, B6.out⟩
      · have hkr' : ¬ (k : Int) ≤ n := by omega
        obtain ⟨q, hq⟩ : ∃ q, k = n + 1 + q := ⟨k - n - 1, by omega⟩
        have hqm : q ≤ m := by omega
        rw [show k + 1 = rs.length + 1 + q + 1 by omega, Mg.take_long] at f3
        obtain ⟨rfl, rfl, rfl, rfl⟩ := f3.one (Mg.file_back HA.out.1 (HA.out.2.1.take q))
        obtain rfl : n = nr := hl.symm.trans r3.len
        obtain rfl : q = np := by
          have := p3.len
          rw [List.length_take] at this
          omega
        have e7 : IntKind.i64.wrap ((k : Int) - n) = (k : Int) - n := i64_in (by omega) (by omega)
        have e8 : IntKind.i64.wrap ((k : Int) - n - 1) = q := by rw [i64_in (by omega) (by omega)]; omega
        have g4 : (0 : Int) ≤ q := by omega
        have g5 : (q : Int) ≤ cp := by have := P0.out.le; omega
        have X4 := hid ((X3.out.alloc (.cells #[.slice ar n cr, .slice ap3 q cp3] 25)).alloc (.cells #[.int .i64 0, .int .i64 0] 35))
        have U4 := hid ((Bx2.new w3 25 (.slice ar n cr) (.slice ap3 q cp3)).alloc (.cells #[.int .i64 0, .int .i64 0] 35))
        have Z4 := hid (Bx2.new (w3.alloc (.cells #[.slice ar n cr, .slice ap3 q cp3] 25)) 35 (.int .i64 0) (.int .i64 0))
        rw [World.size_alloc] at Z4
        have dw := hid (((Below.refl _ w3).alloc (Nat.le_refl _) (.cells #[.slice ar n cr, .slice ap3 q cp3] 25)).alloc (by simp) (.cells #[.int .i64 0, .int .i64 0] 35))
        have D4 := hid (D3.out.trans (dw.out.mono s3'))
        have B4 := hid (B3.out.trans (dw.out.mono s3))
        have R4 := hid (r3.below dw.out)
        have P4 := hid (p3.below dw.out)
        have HQ := hid hq
        clear r3 p3 f3 hq
        have x0 := X4.out.cell0
        have x1 := X4.out.cell1
        go_wp2_with fail
        obtain ⟨w4, hw4⟩ : ∃ w4, (w3.alloc (.cells #[.slice ar n cr, .slice ap3 q cp3] 25)).alloc (.cells #[.int .i64 0, .int .i64 0] 35) = w4 := ⟨_, rfl⟩
        rw [hw4] at X4 U4 Z4 D4 B4 R4 P4 x0 x1 ⊢
        clear hw4 dw
        go_region_held3 (fun w' => w'.cell? ⟨R, 0, none⟩ = some (.slice a n c) ∧ w'.cell? ⟨R, 1, none⟩ = some (.slice ap m cp)) (first | exact ⟨x0, x1⟩ | go_keep) (fail)
        have ew := hid (((Below.refl _ w4).alloc (Nat.le_refl _) (.cells #[.slice a n c, .slice ap q cp] 25)).drew)
        have D5 := hid (D4.out.trans (ew.out.mono D4.out.size))
        have B5 := hid (B4.out.trans (ew.out.mono B4.out.size))
        have U5 := hid (U4.out.below ew.out U4.out.lt)
        have Z5 := hid (Z4.out.below ew.out Z4.out.lt)
        have Y5 := hid ((Bx2.new w4 25 (.slice a n c) (.slice ap q cp)).drew)
        have R5 := hid (R4.out.below ew.out)
        have P5 := hid (P4.out.below ew.out)
        clear x0 x1 ew
        go_wp2_with fail
        refine (fixed08_calls _).mono ?_
        rintro e w6 ⟨rfl, hb6⟩
        have D6 := hid (D5.out.trans (hb6.mono D5.out.size))
        have B6 := hid (B5.out.trans (hb6.mono B5.out.size))
        have U6 := U5.out.below hb6 U5.out.lt
        have Z6 := Z5.out.below hb6 Z5.out.lt
        have Y6 := Y5.out.below hb6 Y5.out.lt
        have u0 := U6.cell0
        have u1 := U6.cell1
        have z0 := Z6.cell0
        have z1 := Z6.cell1
        have y0 := Y6.cell0
        have y1 := Y6.cell1
        have R6 := hid (R5.out.below hb6)
        have P6 := hid (P5.out.below hb6)
        clear hb6 U6 Z6 Y6
        go_wp2_with fail
        refine (msame_yes R6.out (H0.out.below D6.out) P6.out ((P0.out.first q hqm).below D6.out) (by omega) (by omega)).mono ?_
        rintro e w7 ⟨rfl, hb7⟩
        have B7 := hid (B6.out.trans (hb7.mono B6.out.size))
        clear hb7
        go_wp2_with fail
        go_ret
        exact ⟨rfl, B7.out⟩
end Go.Proofs.YtecbmonbeogdjaaDoor
