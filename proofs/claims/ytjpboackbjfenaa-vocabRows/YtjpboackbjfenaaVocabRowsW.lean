/-
  The walk of the law VocabRows.
-/
import Derived.Test.YtjpboackbjfenaaVcF
import Derived.Test.YtjpboackbjfenaaVlG
import Derived.Test.YtjpboackbjfenaaVrS
import Derived.Test.YtjpboackbjfenaaVrF
namespace Go.Proofs.Ytjpboackbjfenaa
open Go.RowKit Go.Maps
set_option linter.unusedVariables false

set_option maxRecDepth 100000 in
set_option maxHeartbeats 6400000 in
theorem vocabRows_calls {w : World} {a az : Option Addr} {n c ns cs : Nat} {rs sp : Vc.Sps} (V : Rw w a n c rs) (Q : Rw w az ns cs sp) :
    Calls Try.prog 4 #[.slice a n c, .slice az ns cs] w fun e w' => e = .returned (.bool true) ∧ Below w.heap.size w w' := by
  have hl := V.len
  have hls := Q.len
  have VW := hid V
  have QW := hid Q
  clear V Q
  go_enter Try.func4, Try.ntmps4
  go_wp2_with fail
  refine (lgreat_calls VW.out (Pw.none w 0 none (Nat.zero_le _) (fun _ => rfl)) QW.out).mono ?_
  rintro e w1 ⟨⟨g, rfl, hg⟩, b1⟩
  have B1 := hid b1
  have HG := hid hg
  clear hg b1
  cases g
  rotate_left
  · go_wp2_with fail
    refine (fixed_calls _).mono ?_
    rintro e w2 ⟨rfl, b2⟩
    have B2 := hid (B1.out.trans (b2.mono B1.out.size))
    clear b2
    go_wp2_with fail
    go_ret
    exact ⟨rfl, B2.out⟩
  have HSm := hid (show Vc.SmallR rs [] sp from Classical.byContradiction fun h => absurd (HG.out.2 h) (by decide))
  clear HG
  have hn : n ≤ 400 := by have := HSm.out.r; omega
  have hns : ns ≤ 20 := by have := HSm.out.s; omega
  go_wp2_with fail
  go_loopg [5, 18] n (fun r sv iv wr => ∃ (j N : Nat), r = n - j ∧ sv = .int .i64 (N : Int) ∧ iv = .int .i64 (j : Int) ∧ j ≤ n ∧ N ≤ j * 80 ∧ Hid (Below w.heap.size w wr))
  case atStart => exact ⟨0, 0, rfl, rfl, rfl, by omega, by omega, B1⟩
  case round =>
    obtain ⟨j, N, rfl, rfl, rfl, hj, hN, HB⟩ := hrel
    by_cases hlt : j < n
    · have l0 : (0 : Int) ≤ j := by omega
      have l1 : (j : Int) < n := by omega
      have l2 : IntKind.i64.wrap ((j : Int) + 1) = j + 1 := i64_in (by omega) (by omega)
      obtain ⟨b0, off, rfl, hbl, hc⟩ := (VW.out.below HB.out).at' (by omega)
      obtain ⟨p1, p2⟩ := hc j hlt
      have hz := HSm.out.rz j (by omega)
      obtain ⟨t, ht⟩ : ∃ t, tat rs j = t := ⟨_, rfl⟩
      obtain ⟨x, hx⟩ : ∃ t, kat rs j = t := ⟨_, rfl⟩
      rw [ht] at p1 hz
      rw [hx] at p2
      obtain ⟨m, hm⟩ : ∃ m, t.size = m := ⟨_, rfl⟩
      rw [hm] at hz
      clear hc ht hx
      have B2 := hid (HB.out.alloc HB.out.size (.cells #[.string t, .int .i64 x] 32))
      have l3 : IntKind.i64.wrap ((N : Int) + m) = ((N + m : Nat) : Int) := by rw [i64_in (by omega) (by omega)]; omega
      by_cases h1 : (1 : Int) < m
      · go_wp2_with fail
        go_roundg (n - (j + 1))
        case measure => omega
        case rel => exact ⟨j + 1, N + m, rfl, by go_num, by go_num, by omega, by omega, B2⟩
      · go_wp2_with fail
        go_roundg (n - (j + 1))
        case measure => omega
        case rel => exact ⟨j + 1, N, rfl, rfl, by go_num, by omega, by omega, B2⟩
    · have k1 : ¬ ((j : Int) < n) := by omega
      obtain ⟨W, hW⟩ : ∃ W, W = wr := ⟨_, rfl⟩
      subst hW
      by_cases h6 : (600 : Int) < N
      · go_wp2_with fail
        refine (fixed_calls _).mono ?_
        rintro e w2 ⟨rfl, b2⟩
        have B2 := hid (HB.out.trans (b2.mono HB.out.size))
        clear b2
        go_wp2_with fail
        go_ret
        exact ⟨rfl, B2.out⟩
      · go_wp2_with fail
        refine (fromRows_calls (VW.out.below HB.out) (QW.out.below HB.out) (fun i hi => Nat.le_trans (HSm.out.rz i hi) (by decide)) (by omega)).mono ?_
        rintro e w5 ⟨E5, b5⟩
        have B5 := hid (HB.out.trans (b5.mono HB.out.size))
        clear b5
        rcases E5 with ⟨ts, ms, sp', ta, tn, tc, am, nm, cm, za, zn, zc, hF, _, rfl, hV⟩ | ⟨hno, rfl⟩
        · have HF := hid hF
          have htl := hV.T.len
          have hml := hV.M.len
          have hzl := hV.S.len
          have htn := hF.may.T.len
          have hmn := hF.may.M.len
          have hsn := hF.may.S.len
          have B6 := hid (B5.out.alloc B5.out.size (.cells #[.slice ta tn tc, .slice am nm cm, .slice za zn zc] 26))
          have b56 := (Below.refl _ w5).alloc (Nat.le_refl _) (.cells #[.slice ta tn tc, .slice am nm cm, .slice za zn zc] 26)
          have X6 := hid (Bx3.new w5 26 (.slice ta tn tc) (.slice am nm cm) (.slice za zn zc))
          have V6 := hid (hV.below b56)
          obtain ⟨K, hK⟩ : ∃ K, w5.heap.size = K := ⟨_, rfl⟩
          rw [hK] at X6
          clear hF hV b56
          go_wp2_with fail
          refine (rfromRows_calls (VW.out.below B6.out) (QW.out.below B6.out) (by omega) (by omega) (fun i hi => Nat.le_trans (HSm.out.sz i hi) (by decide))).mono ?_
          rintro e w7 ⟨E7, b7⟩
          have B7 := hid (B6.out.trans (b7.mono B6.out.size))
          have X7 := hid (X6.out.below b7 X6.out.lt)
          have V7 := hid (V6.out.below b7)
          clear b7 B6 X6 V6
          rcases E7 with ⟨ts2, ms2, sp2, ua, un, uc, bm, pm, dm, ya2, yn, yc2, hF2, rfl, hV2⟩ | ⟨hno, _⟩
          · obtain ⟨rfl, rfl, rfl⟩ := HF.out.one hF2
            have b78 := (Below.refl _ w7).alloc (Nat.le_refl _) (.cells #[.slice ua un uc, .slice bm pm dm, .slice ya2 yn yc2] 26)
            have B8 := hid (B7.out.alloc B7.out.size (.cells #[.slice ua un uc, .slice bm pm dm, .slice ya2 yn yc2] 26))
            have X8 := hid (X7.out.alloc (.cells #[.slice ua un uc, .slice bm pm dm, .slice ya2 yn yc2] 26))
            have Y8 := hid (Bx3.new w7 26 (.slice ua un uc) (.slice bm pm dm) (.slice ya2 yn yc2))
            have V8 := hid (V7.out.below b78)
            have U8 := hid (hV2.below b78)
            clear hF2 hV2 b78
            go_wp2_with fail
            refine (fixed_calls _).mono ?_
            rintro e w9 ⟨rfl, b9⟩
            have B9 := hid (B8.out.trans (b9.mono B8.out.size))
            have X9 := hid (X8.out.below b9 X8.out.lt)
            have Y9 := hid (Y8.out.below b9 Y8.out.lt)
            have V9 := hid (V8.out.below b9)
            have U9 := hid (U8.out.below b9)
            clear b9 B8 X8 Y8 V8 U8
            have x0 := X9.out.cell0
            have x1 := X9.out.cell1
            have x2 := X9.out.cell2
            have y0 := Y9.out.cell0
            have y1 := Y9.out.cell1
            have y2 := Y9.out.cell2
            go_wp2_with fail
            refine (vsame_yes V9.out U9.out (by omega) (by omega) (by omega)).mono ?_
            rintro e w10 ⟨rfl, b10⟩
            have B10 := hid (B9.out.trans (b10.mono B9.out.size))
            clear b10
            go_wp2_with fail
            go_ret
            exact ⟨rfl, B10.out⟩
          · exact absurd ⟨_, _, _, HF.out⟩ hno
        · have HF := hid hno
          have B6 := hid (B5.out.alloc B5.out.size (.cells #[.slice none 0 0, .slice none 0 0, .slice none 0 0] 26))
          have X6 := hid (Bx3.new w5 26 (.slice none 0 0) (.slice none 0 0) (.slice none 0 0))
          obtain ⟨K, hK⟩ : ∃ K, w5.heap.size = K := ⟨_, rfl⟩
          rw [hK] at X6
          clear hno
          go_wp2_with fail
          refine (rfromRows_calls (VW.out.below B6.out) (QW.out.below B6.out) (by omega) (by omega) (fun i hi => Nat.le_trans (HSm.out.sz i hi) (by decide))).mono ?_
          rintro e w7 ⟨E7, b7⟩
          have B7 := hid (B6.out.trans (b7.mono B6.out.size))
          have X7 := hid (X6.out.below b7 X6.out.lt)
          clear b7 B6 X6
          rcases E7 with ⟨ts2, ms2, sp2, ua, un, uc, bm, pm, dm, ya2, yn, yc2, hF2, rfl, hV2⟩ | ⟨_, rfl⟩
          · exact absurd ⟨_, _, _, hF2⟩ HF.out
          · have B8 := hid (B7.out.alloc B7.out.size (.cells #[.slice none 0 0, .slice none 0 0, .slice none 0 0] 26))
            have X8 := hid (X7.out.alloc (.cells #[.slice none 0 0, .slice none 0 0, .slice none 0 0] 26))
            have Y8 := hid (Bx3.new w7 26 (.slice none 0 0) (.slice none 0 0) (.slice none 0 0))
            go_wp2_with fail
            refine (fixed_calls _).mono ?_
            rintro e w9 ⟨rfl, b9⟩
            have B9 := hid (B8.out.trans (b9.mono B8.out.size))
            have X9 := hid (X8.out.below b9 X8.out.lt)
            have Y9 := hid (Y8.out.below b9 Y8.out.lt)
            have Vz := hid (show Vo w9 none 0 0 none 0 0 none 0 0 [] [] [] from ⟨⟨rfl, Nat.le_refl _, Nat.zero_le _, fun _ => ⟨rfl, rfl⟩, fun h => absurd h (by omega)⟩, Qw.none w9 0 none (Nat.zero_le _) (fun _ => rfl), Rw.none w9 0 none (Nat.zero_le _) (fun _ => rfl)⟩)
            clear b9 B8 X8 Y8
            have x0 := X9.out.cell0
            have x1 := X9.out.cell1
            have x2 := X9.out.cell2
            have y0 := Y9.out.cell0
            have y1 := Y9.out.cell1
            have y2 := Y9.out.cell2
            go_wp2_with fail
            refine (vsame_yes Vz.out Vz.out (by omega) (by omega) (by omega)).mono ?_
            rintro e w10 ⟨rfl, b10⟩
            have B10 := hid (B9.out.trans (b10.mono B9.out.size))
            clear b10
            go_wp2_with fail
            go_ret
            exact ⟨rfl, B10.out⟩
end Go.Proofs.Ytjpboackbjfenaa
