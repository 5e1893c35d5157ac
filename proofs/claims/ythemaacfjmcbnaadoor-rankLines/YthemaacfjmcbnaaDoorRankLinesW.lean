/-
  The walk of the law RankLines.
-/
import Derived.Test.YthemaacfjmcbnaaDoorRkE2
import Derived.Test.YthemaacfjmcbnaaDoorRkF
import Derived.Test.YthemaacfjmcbnaaDoorRkR
import Derived.Test.YthemaacfjmcbnaaDoorCvb
namespace Go.Proofs.YthemaacfjmcbnaaDoor
open Go.RowKit
set_option linter.unusedVariables false

theorem Rk.FileIs.er {s : ByteArray} {r : List (ByteArray × Int)} {l e : Int} (h : Rk.FileIs [s] r l e) : Rk.Er s e := by
  rcases h with ⟨h, _, _, h4⟩ | ⟨i, hi, _, h3, _⟩
  · subst h4; exact h 0 (by simp)
  · have h1 : i < 1 := hi
    obtain rfl : i = 0 := by omega
    exact h3

theorem Rk.wrong_lines {xs ys : List (ByteArray × Int)} (hx : Rk.All xs) (hy : Rk.All ys) {s : ByteArray} (hs : ∀ b ∈ by_ s, b ≠ 10) : (lns (mk (Rk.fileL xs ++ (by_ s ++ 10 :: Rk.fileL ys)))).length = xs.length + 1 + ys.length := by
  have e := Rk.lines_file (xs := ys) [] hy
  rw [List.append_nil, show Ln.lines [] = [] from rfl] at e
  rw [Rk.lns_file hx, Rk.lines_wrong hs, e]
  simp
  omega

set_option maxRecDepth 100000 in
set_option maxHeartbeats 3200000 in
theorem rankLines_calls (a : Option Addr) (n c : Nat) (xs : List (ByteArray × Int)) (cut : Int) (hc0 : 0 ≤ cut) (hc1 : cut ≤ 255) (s : ByteArray) (w : World) (h0 : Rw w a n c xs) (ht : Tab w) :
    Calls Tryd.prog 4 #[.slice a n c, .int .u8 cut, .string s] w fun e w' => e = .returned (.bool true) ∧ Below w.heap.size w w' := by
  have H0 := hid h0
  have HT := hid ht
  have hl := h0.len
  clear h0 ht
  by_cases hb0 : 60 < n
  · have hb0' : (60 : Int) < n := by omega
    go_enter Tryd.func4, Tryd.ntmps4
    go_wp2_with fail
    refine (fixed07_calls _).mono ?_
    rintro e w' ⟨rfl, hb⟩
    go_wp2_with fail
    go_ret
    exact ⟨rfl, hb⟩
  have hb0' : ¬ (60 : Int) < n := by omega
  obtain ⟨M, hM⟩ : ∃ M, s.size = M := ⟨_, rfl⟩
  by_cases hb1 : 200 < M
  · have hb1' : (200 : Int) < M := by omega
    go_enter Tryd.func4, Tryd.ntmps4
    go_wp2_with fail
    refine (fixed07_calls _).mono ?_
    rintro e w' ⟨rfl, hb⟩
    go_wp2_with fail
    go_ret
    exact ⟨rfl, hb⟩
  have hb1' : ¬ (200 : Int) < M := by omega
  go_enter Tryd.func4, Tryd.ntmps4
  go_wp2_with fail
  refine (write_calls H0.out (by omega) HT.out).mono ?_
  rintro e w1 ⟨ho, hb⟩
  have B1 := hid hb
  have H1 := hid (H0.out.below hb)
  have T1 := hid (HT.out.below hb)
  clear hb
  rcases ho with ⟨hA, a1, c1, rfl, s1⟩ | ⟨hA, rfl⟩
  rotate_left
  · go_wp2_with fail
    refine (fixed07_calls _).mono ?_
    rintro e w' ⟨rfl, hb⟩
    have B2 := hid (B1.out.trans (hb.mono B1.out.size))
    clear hb
    go_wp2_with fail
    go_ret
    exact ⟨rfl, B2.out⟩
  have HA := hid hA
  have S1 := hid s1
  clear hA s1
  obtain ⟨N, hN⟩ : ∃ N, (Rk.fileL xs).length = N := ⟨_, rfl⟩
  obtain ⟨X, hX⟩ : ∃ X, mk (Rk.fileL xs) = X := ⟨_, rfl⟩
  have hXs : X.size = N := by rw [← hX, mk_size, hN]
  have hN97 : N ≤ 9700 := by rw [← hN]; have := Rk.file_len HA.out; omega
  rw [hN, hX] at S1
  rw [hN]
  obtain ⟨k, hk⟩ : ∃ k : Nat, k = cut.toNat % (n + 1) := ⟨_, rfl⟩
  have hkn : k ≤ n := by have := Nat.mod_lt cut.toNat (show 0 < n + 1 by omega); omega
  have e1 : IntKind.i64.wrap cut = cut := i64_in (by omega) (by omega)
  have e2 : IntKind.i64.wrap ((n : Int) + 1) = (n : Int) + 1 := i64_in (by omega) (by omega)
  have e3 : cut.tmod ((n : Int) + 1) = k := by
    obtain ⟨u, hu⟩ := Int.eq_ofNat_of_zero_le hc0
    rw [Int.tmod_eq_emod_of_nonneg hc0, hk, hu, show ((n : Int) + 1) = ((n + 1 : Nat) : Int) by omega, ← Int.natCast_emod]
    rfl
  have kc0 : (0 : Int) ≤ k := by omega
  have kcc : (k : Int) ≤ c := by have := H0.out.le; omega
  have HN := hid hN
  have HX := hid hX
  have HK := hid hk
  clear hk hX hN
  go_wp2_with fail
  refine (write_calls (H1.out.first k hkn) (by omega) T1.out).mono ?_
  rintro e w2 ⟨ho, hb2⟩
  have B2 := hid (B1.out.trans (hb2.mono B1.out.size))
  have S2 := hid (S1.out.below hb2)
  clear hb2 S1
  rcases ho with ⟨hA2, a2, c2, rfl, s2⟩ | ⟨hA2, _⟩
  rotate_left
  · exact absurd (HA.out.take k) hA2
  obtain ⟨F, hF⟩ : ∃ F, Rk.fileL (xs.take k) = F := ⟨_, rfl⟩
  rw [hF] at s2
  rw [hF]
  obtain ⟨G, hG⟩ : ∃ G, Rk.fileL (xs.drop k) = G := ⟨_, rfl⟩
  have HFG := hid (show Rk.fileL xs = F ++ G by rw [← hF, ← hG]; exact Rk.file_split xs k)
  obtain ⟨m, hm⟩ : ∃ m, F.length = m := ⟨_, rfl⟩
  have hmN : m ≤ N := by rw [← hm, ← HN.out, HFG.out, List.length_append]; omega
  rw [hm] at s2 ⊢
  have S3 := hid s2
  have g1 : (m : Int) ≤ N := by omega
  have g2 : ¬ (N : Int) < m := by omega
  have g3 : (0 : Int) ≤ m := by omega
  have g4 : (m : Int) ≤ c1 := by have := S2.out.le; omega
  obtain ⟨Y, hY⟩ : ∃ Y, mk F = Y := ⟨_, rfl⟩
  have hYs : Y.size = m := by rw [← hY, mk_size, hm]
  rw [hY] at S3
  have cv1 := fun d => run_convert_sl (P := Tryd.prog) (w2.drewN d) 26 5 9 Tryd.underlying26 Tryd.underlying5 Tryd.underlying9 (S3.out.below (below_drewN (Below.refl _ _) d))
  rw [show str (bytesF Y) m = Y by rw [← hYs]; exact str_bytes Y] at cv1
  have cv2 := fun d => run_convert_sl (P := Tryd.prog) (w2.drewN d) 26 5 9 Tryd.underlying26 Tryd.underlying5 Tryd.underlying9 ((S2.out.first m hmN).below (below_drewN (Below.refl _ _) d))
  rw [show str (bytesF X) m = Y by
    rw [← str_bytes Y, hYs]
    refine str_congr fun i hi => ?_
    rw [← HX.out, ← hY, HFG.out, Rk.bytes_mk, Rk.bytes_mk]
    unfold Ln.gF
    rw [List.getD_eq_getElem?_getD, List.getD_eq_getElem?_getD, List.getElem?_append_left (by omega)]] at cv2
  have hYY : (Y.toList == Y.toList) = true := beq_self_eq_true _
  have HF := hid hF
  have HY := hid hY
  have HMm := hid hm
  clear hF hY hm hG s2 hA2
  have d1 : decide ((N : Int) < (m : Int)) = false := by simp; omega
  go_wp2_with fail
  go_quiet (fail)
  have B3 := hid (below_drewN B2.out nq)
  have S4 := hid (S2.out.below (below_drewN (Below.refl _ _) nq))
  have S5 := hid (S3.out.below (below_drewN (Below.refl _ _) nq))
  obtain ⟨w3, hw3⟩ : ∃ w3, w2.drewN nq = w3 := ⟨_, rfl⟩
  rw [hw3] at B3 S4 S5
  rw [hw3]
  clear hw3 B2 S2 S3 cv1 cv2 d1 H1 T1 B1
  obtain ⟨_, hget, hbd⟩ := St.any s
  obtain ⟨f, hf⟩ : ∃ f, bytesF s = f := ⟨_, rfl⟩
  rw [hf] at hget hbd
  have HF2 := hid hf
  have HBD := hid hbd
  clear hf hbd
  by_cases hM0 : M = 0
  · have e5 := (Rk.empty_of (hM.trans hM0)).1
    have e6 := (Rk.empty_of (hM.trans hM0)).2
    go_wp2_with fail
    refine (fixed07_calls _).mono ?_
    rintro e w' ⟨rfl, hb⟩
    have B4 := hid (B3.out.trans (hb.mono B3.out.size))
    clear hb
    go_wp2_with fail
    go_ret
    exact ⟨rfl, B4.out⟩
  have e5 := (Rk.full_of (by rw [hM]; exact hM0)).1
  have e6 := (Rk.full_of (by rw [hM]; exact hM0)).2
  go_wp2_with fail
  go_loopg [76] M (fun r iv wr => ∃ j : Nat, r = M - j ∧ j ≤ M ∧ iv = .int .i64 j ∧ Hid (∀ i, i < j → f i ≠ 10) ∧ w3 = wr)
  case atStart => exact ⟨0, rfl, by omega, rfl, hid (fun i hi => by omega), rfl⟩
  case round =>
    obtain ⟨j, rfl, hj, rfl, HNL, rfl⟩ := hrel
    by_cases hlt : j < M
    · have l1 : (j : Int) < M := by omega
      have l0 : (0 : Int) ≤ j := by omega
      have e7 : IntKind.i64.wrap ((j : Int) + 1) = j + 1 := i64_in (by omega) (by omega)
      by_cases h10 : f j = 10
      · go_wp2_with fail
        refine (fixed07_calls _).mono ?_
        rintro e w' ⟨rfl, hb⟩
        have B4 := hid (B3.out.trans (hb.mono B3.out.size))
        clear hb
        go_wp2_with fail
        go_ret
        exact ⟨rfl, B4.out⟩
      · have H10 := hid h10
        go_wp2_with fail
        go_roundg (M - (j + 1))
        case measure => omega
        case rel => exact ⟨j + 1, rfl, by omega, by go_num, hid (fun i hi => by
          by_cases h : i < j
          · exact HNL.out i h
          · obtain rfl : i = j := by omega
            exact H10.out), rfl⟩
    · have l1 : ¬ (j : Int) < M := by omega
      obtain rfl : j = M := by omega
      have HNB := hid (show ∀ b ∈ by_ s, b ≠ 10 from fun b hb e => by
        obtain ⟨i, hi, h⟩ := Rk.mem_at hb
        rw [← Rk.bytes_mk, mk_by, HF2.out] at h
        rw [by_length, hM] at hi
        exact HNL.out i hi (by rw [h, e]; rfl))
      have HLS := hid (show lns s = [s] by
        unfold lns
        rw [Rk.lines_one HNB.out (fun e => by have := by_length s; rw [e] at this; simp at this; omega)]
        simp [mk_by])
      go_wp2_with fail
      refine (rread_calls s _ (by omega) (by rw [HLS.out]; simp)).mono ?_
      rintro e w4 ⟨⟨rows, a4, k4, c4, l4, e4, rfl, r4, f4⟩, hb4⟩
      rw [HLS.out] at f4
      have HER := hid (f4.er)
      have B4 := hid (B3.out.trans (hb4.mono B3.out.size))
      have S6 := hid (S4.out.below hb4)
      have S7 := hid (S5.out.below hb4)
      have s4 := B4.out.size
      have B5 := hid (B4.out.alloc s4 (.cells #[.int .i64 l4, .int .i64 e4] 33))
      clear hb4 f4 r4 S4 S5 B3
      by_cases he2 : e4 = 2
      · subst he2
        have W5 := hid ((Below.refl _ w4).alloc (Nat.le_refl _) (.cells #[.int .i64 l4, .int .i64 2] 33))
        obtain ⟨w5, hw5⟩ : ∃ w5, w4.alloc (.cells #[.int .i64 l4, .int .i64 2] 33) = w5 := ⟨_, rfl⟩
        have hs5 : w5.heap.size = w4.heap.size + 1 := by rw [← hw5]; simp
        rw [hw5] at W5 B5
        have cv1 := run_convert_sl (P := Tryd.prog) w5 26 5 9 Tryd.underlying26 Tryd.underlying5 Tryd.underlying9 (S7.out.below W5.out)
        rw [show str (bytesF Y) m = Y by rw [← hYs]; exact str_bytes Y] at cv1
        have cv2 := run_convert_sl (P := Tryd.prog) w5 26 5 9 Tryd.underlying26 Tryd.underlying5 Tryd.underlying9 (S6.out.below W5.out)
        rw [show str (bytesF X) N = X by rw [← hXs]; exact str_bytes X] at cv2
        obtain ⟨Z, hZ⟩ : ∃ Z, ((Y ++ s) ++ (⟨#[10]⟩ : ByteArray)) ++ X = Z := ⟨_, rfl⟩
        obtain ⟨zz, hzz⟩ : ∃ zz, Z.size = zz := ⟨_, rfl⟩
        have HZ := hid (show Z = mk (Rk.fileL (xs.take k) ++ (by_ s ++ 10 :: Rk.fileL xs)) by
          rw [← hZ, HF.out, ← HX.out, ← HY.out]
          apply by_inj
          rw [by_append, by_append, by_append, by_mk, by_mk, by_mk]
          simp [by_])
        have y1 : (Y ++ s).size = m + j := by rw [ByteArray.size_append, hYs, hM]
        have y2 : ((Y ++ s) ++ (⟨#[10]⟩ : ByteArray)).size = m + j + 1 := by rw [ByteArray.size_append, y1]; rfl
        have hz97 : zz ≤ 20000 := by rw [← hzz, ← hZ, ByteArray.size_append, y2, hXs]; omega
        have hStZ := St.any Z
        rw [hzz] at hStZ
        obtain ⟨cap, w6, cv3, hsl6, hb6, hw6⟩ := conv_bytes (P := Tryd.prog) w5 9 26 5 Tryd.underlying9 Tryd.underlying26 Tryd.underlying5 hStZ (by unfold maxLen; omega)
        have HSZ := hid (show str (bytesF Z) zz = Z by rw [← hzz]; exact str_bytes Z)
        have S8 := hid hsl6
        have B6 := hid (B5.out.trans (hb6.mono B5.out.size))
        rw [hs5] at cv3 S8
        rw [← hw5] at cv1 cv2 cv3
        have HWL := hid (Rk.wrong_lines (HA.out.take k) HA.out HNB.out)
        have HWR := hid (Rk.file_wrong (HA.out.take k) HNB.out HER.out (Rk.fileL xs))
        rw [← HZ.out] at HWL HWR
        have hkl : (xs.take k).length = k := by rw [List.length_take]; omega
        rw [hkl] at HWL HWR
        have x1 : ¬ 9223372036854775807 < m + j := by omega
        have x2 : ¬ 9223372036854775807 < m + j + 1 := by omega
        have x3 : ¬ 9223372036854775807 < m + j + 1 + N := by omega
        have e8 : IntKind.i64.wrap ((k : Int) + 1) = (k : Int) + 1 := i64_in (by omega) (by omega)
        clear hs5 hw5 hzz hStZ hsl6 hb6 hw6 S6 S7 W5 hkl
        go_wp2_with fail
        refine (read_calls _ zz cap (bytesF Z) _ (by omega) S8.out (by rw [HSZ.out, HWL.out]; omega)).mono ?_
        rintro e w7 ⟨⟨rows7, a7, k7, c7, l7, e7, rfl, r7, f7⟩, hb7⟩
        rw [HSZ.out] at f7
        obtain ⟨rfl, rfl, rfl⟩ := f7.one HWR.out
        obtain rfl : 0 = k7 := r7.len
        have B7 := hid (B6.out.trans (hb7.mono B6.out.size))
        have s7 := B7.out.size
        have B8 := hid (B7.out.alloc s7 (.cells #[.int .i64 ((k : Int) + 1), .int .i64 2] 33))
        have X7 := hid (Bx2.new w7 33 (.int .i64 ((k : Int) + 1)) (.int .i64 2))
        clear cv1 cv2 cv3 hb7 r7 f7 B6 S8 HWL HWR
        go_wp2_with fail
        refine (fixed07_calls _).mono ?_
        rintro e w8 ⟨rfl, hb8⟩
        have B9 := hid (B8.out.trans (hb8.mono B8.out.size))
        have X8 := X7.out.below hb8 X7.out.lt
        have y3 := X8.cell0
        have y4 := X8.cell1
        clear hb8 X8
        go_wp2_with fail
        go_ret
        exact ⟨rfl, B9.out⟩
      · have HE2 := hid he2
        go_wp2_with fail
        refine (fixed07_calls _).mono ?_
        rintro e w' ⟨rfl, hb⟩
        have B6 := hid (B5.out.trans (hb.mono B5.out.size))
        clear hb
        go_wp2_with fail
        go_ret
        exact ⟨rfl, B6.out⟩
end Go.Proofs.YthemaacfjmcbnaaDoor
