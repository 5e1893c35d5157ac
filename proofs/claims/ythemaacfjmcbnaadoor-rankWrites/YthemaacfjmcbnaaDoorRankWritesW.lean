/-
  The walk of the law RankWrites.
-/
import Derived.Test.YthemaacfjmcbnaaDoorRkE2
import Derived.Test.YthemaacfjmcbnaaDoorRkE3
import Derived.Test.YthemaacfjmcbnaaDoorRkF
import Derived.Test.YthemaacfjmcbnaaDoorRkS
namespace Go.Proofs.YthemaacfjmcbnaaDoor
open Go.RowKit
set_option linter.unusedVariables false

theorem file_lines {xs : List (ByteArray × Int)} (h : Rk.All xs) : (lns (mk (Rk.fileL xs))).length = xs.length := by
  have e := Rk.lns_file h []
  rw [List.append_nil, show Ln.lines [] = [] from rfl, List.map_nil] at e
  rw [e]; simp

set_option maxRecDepth 100000 in
set_option maxHeartbeats 3200000 in
theorem rankWrites_calls (a : Option Addr) (n c : Nat) (xs : List (ByteArray × Int)) (w : World) (h0 : Rw w a n c xs) (ht : Tab w) :
    Calls Tryd.prog 3 #[.slice a n c] w fun e w' => e = .returned (.bool true) ∧ Below w.heap.size w w' := by
  have H0 := hid h0
  have HT := hid ht
  have hl := h0.len
  clear h0 ht
  by_cases hb0 : 100 < n
  · have hb0' : (100 : Int) < n := by omega
    go_enter Tryd.func3, Tryd.ntmps3
    go_wp2_with fail
    refine (fixed07_calls _).mono ?_
    rintro e w' ⟨rfl, hb⟩
    go_wp2_with fail
    go_ret
    exact ⟨rfl, hb⟩
  have hb0' : ¬ (100 : Int) < n := by omega
  go_enter Tryd.func3, Tryd.ntmps3
  go_wp2_with fail
  go_loopg [17] n (fun r iv wr => ∃ j : Nat, r = n - j ∧ j ≤ n ∧ iv = .int .i64 j ∧ Hid (Below w.heap.size w wr))
  case atStart => exact ⟨0, rfl, by omega, rfl, hid (Below.refl _ _)⟩
  case round =>
    obtain ⟨j, rfl, hj, rfl, HB⟩ := hrel
    by_cases hlt : j < n
    · have k1 : (j : Int) < n := by omega
      have k0 : (0 : Int) ≤ j := by omega
      have e2 : IntKind.i64.wrap ((j : Int) + 1) = j + 1 := i64_in (by omega) (by omega)
      obtain ⟨b, off, rfl, hbl, hc⟩ := (H0.out.below HB.out).at' (by omega)
      obtain ⟨q1, p1⟩ := hc j hlt
      obtain ⟨t, ht⟩ : ∃ t, tat xs j = t := ⟨_, rfl⟩
      obtain ⟨k, hk⟩ : ∃ k, kat xs j = k := ⟨_, rfl⟩
      rw [ht] at q1
      rw [hk] at p1
      have B1 := hid (HB.out.alloc HB.out.size (.cells #[.string t, .int .i64 k] 25))
      clear hc ht hk
      by_cases h100 : 100 < t.size
      · have h100' : (100 : Int) < t.size := by omega
        go_wp2_with fail
        refine (fixed07_calls _).mono ?_
        rintro e w' ⟨rfl, hb⟩
        have B2 := hid (B1.out.trans (hb.mono B1.out.size))
        clear hb
        go_wp2_with fail
        go_ret
        exact ⟨rfl, B2.out⟩
      · have h100' : ¬ (100 : Int) < t.size := by omega
        go_wp2_with fail
        go_roundg (n - (j + 1))
        case measure => omega
        case rel => exact ⟨j + 1, rfl, by omega, by go_num, B1⟩
    · obtain rfl : j = n := by omega
      have k1 : ¬ (j : Int) < j := by omega
      go_wp2_with fail
      refine (write_calls (H0.out.below HB.out) (by omega) (HT.out.below HB.out)).mono ?_
      rintro e w1 ⟨ho, hb1⟩
      have B1 := hid (HB.out.trans (hb1.mono HB.out.size))
      have H1 := hid (H0.out.below B1.out)
      clear hb1
      rcases ho with ⟨hA, a1, c1, rfl, s1⟩ | ⟨hA, rfl⟩
      · have HA := hid hA
        have S1 := hid s1
        clear hA s1
        obtain ⟨N, hN⟩ : ∃ N, (Rk.fileL xs).length = N := ⟨_, rfl⟩
        obtain ⟨X, hX⟩ : ∃ X, mk (Rk.fileL xs) = X := ⟨_, rfl⟩
        have hXs : X.size = N := by rw [← hX, mk_size, hN]
        have hN97 : N ≤ 9700 := by rw [← hN]; have := Rk.file_len HA.out; omega
        have HX := hid hX
        rw [hN, hX] at S1
        rw [hN]
        have HS := hid (show str (bytesF X) N = X by rw [← hXs]; exact str_bytes X)
        clear hN hX hXs
        go_wp2_with fail
        refine (rwrite_calls H1.out (by omega)).mono ?_
        rintro e w2 ⟨ho, hb2⟩
        obtain rfl : e = .returned (.tuple #[.string X, .bool true]) := by
          rcases ho with ⟨_, rfl⟩ | ⟨h, _⟩
          · rw [HX.out]
          · exact absurd HA.out h
        have B2 := hid (B1.out.trans (hb2.mono B1.out.size))
        have S2 := hid (S1.out.below hb2)
        have H2 := hid (H0.out.below B2.out)
        have cv := run_convert_sl (P := Tryd.prog) w2 26 5 9 Tryd.underlying26 Tryd.underlying5 Tryd.underlying9 S2.out
        rw [HS.out] at cv
        have hXX : (X.toList == X.toList) = true := beq_self_eq_true _
        clear ho hb2 S1 B1 H1
        go_wp2_with fail
        have hll := hid (file_lines HA.out)
        have HFB := hid (Rk.file_back HA.out)
        rw [HX.out] at hll HFB
        refine (read_calls a1 N c1 (bytesF X) _ (by omega) S2.out (by rw [HS.out, hll.out]; omega)).mono ?_
        rintro e w3 ⟨⟨rows, a3, k3, c3, l3, e3, rfl, r3, f3⟩, hb3⟩
        rw [HS.out] at f3
        obtain ⟨rfl, rfl, rfl⟩ := f3.one HFB.out
        obtain rfl : j = k3 := H2.out.len.symm.trans r3.len
        have B3 := hid (B2.out.trans (hb3.mono B2.out.size))
        have s3 := B3.out.size
        have B4 := hid (B3.out.alloc s3 (.cells #[.int .i64 0, .int .i64 0] 33))
        have X3 := hid (Bx2.new w3 33 (.int .i64 0) (.int .i64 0))
        have R3 := hid (r3.below ((Below.refl _ w3).alloc (Nat.le_refl _) (.cells #[.int .i64 0, .int .i64 0] 33)))
        clear cv hb3 r3 f3 S2 B2 H2 hll HFB
        go_wp2_with fail
        refine (fixed07_calls _).mono ?_
        rintro e w4 ⟨rfl, hb4⟩
        have B5 := hid (B4.out.trans (hb4.mono B4.out.size))
        have X4 := X3.out.below hb4 X3.out.lt
        have y0 := X4.cell0
        have y1 := X4.cell1
        have R4 := hid (R3.out.below hb4)
        have H4 := hid (H0.out.below B5.out)
        clear hb4 X4
        go_wp2_with fail
        refine (rsame_yes R4.out H4.out (by omega)).mono ?_
        rintro e w5 ⟨rfl, d5, hw5⟩
        have B6 : Hid (Below w.heap.size w w5) := (by rw [hw5]; exact below_drewN B5.out d5)
        clear hw5
        go_wp2_with fail
        go_ret
        exact ⟨rfl, B6.out⟩
      · have HA := hid hA
        clear hA
        have S1 := hid (show Sl w1 none 0 0 (fun _ => 0) from ⟨Nat.le_refl _, Nat.zero_le _, fun i => by omega, fun _ => ⟨rfl, rfl⟩, fun h => absurd h (by omega)⟩)
        go_wp2_with fail
        refine (rwrite_calls H1.out (by omega)).mono ?_
        rintro e w2 ⟨ho, hb2⟩
        obtain rfl : e = .returned (.tuple #[.string ⟨#[]⟩, .bool false]) := by
          rcases ho with ⟨h, _⟩ | ⟨_, rfl⟩
          · exact absurd h HA.out
          · rfl
        have B2 := hid (B1.out.trans (hb2.mono B1.out.size))
        have S2 := hid (S1.out.below hb2)
        have cv := run_convert_sl (P := Tryd.prog) w2 26 5 9 Tryd.underlying26 Tryd.underlying5 Tryd.underlying9 S2.out
        rw [show str (fun _ => 0) 0 = ⟨#[]⟩ from rfl] at cv
        clear ho hb2 S1 B1 H1
        go_wp2_with fail
        refine (read_calls none 0 0 (fun _ => 0) _ (by omega) S2.out (by decide)).mono ?_
        rintro e w3 ⟨⟨rows, a3, k3, c3, l3, e3, rfl, r3, f3⟩, hb3⟩
        obtain ⟨rfl, rfl, rfl⟩ := f3.one (show Rk.FileIs (lns (str (fun _ => 0) 0)) [] 0 0 from .inl ⟨fun i hi => absurd hi (by simp [show lns (str (fun _ => 0) 0) = [] from rfl]), rfl, rfl, rfl⟩)
        have B3 := hid (B2.out.trans (hb3.mono B2.out.size))
        have s3 := B3.out.size
        have B4 := hid (B3.out.alloc s3 (.cells #[.int .i64 0, .int .i64 0] 33))
        have X3 := hid (Bx2.new w3 33 (.int .i64 0) (.int .i64 0))
        clear cv hb3 r3 f3 S2 B2
        go_wp2_with fail
        refine (fixed07_calls _).mono ?_
        rintro e w4 ⟨rfl, hb4⟩
        have B5 := hid (B4.out.trans (hb4.mono B4.out.size))
        have X4 := X3.out.below hb4 X3.out.lt
        have y0 := X4.cell0
        have y1 := X4.cell1
        clear hb4 X4
        go_wp2_with fail
        go_ret
        exact ⟨rfl, B5.out⟩
end Go.Proofs.YthemaacfjmcbnaaDoor
