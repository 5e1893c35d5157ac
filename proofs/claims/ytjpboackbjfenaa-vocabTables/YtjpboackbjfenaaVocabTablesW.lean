/-
  The walk of the law VocabTables.
-/
import Derived.Test.YtjpboackbjfenaaVcF
import Derived.Test.YtjpboackbjfenaaVlG
import Derived.Test.YtjpboackbjfenaaVrS
import Derived.Test.YtjpboackbjfenaaVrT
namespace Go.Proofs.Ytjpboackbjfenaa
open Go.RowKit Go.Maps
set_option linter.unusedVariables false

set_option maxRecDepth 100000 in
set_option maxHeartbeats 6400000 in
theorem vocabTables_calls {w : World} {a b az : Option Addr} {n c m d ns cs : Nat} {rs sp : Vc.Sps} {ps : List (ByteArray × ByteArray)} (V : Rw w a n c rs) (U : Pw w b m d ps) (Q : Rw w az ns cs sp) :
    Calls Try.prog 5 #[.agg #[.slice a n c, .slice b m d], .slice az ns cs] w fun e w' => e = .returned (.bool true) ∧ Below w.heap.size w w' := by
  have hl := V.len
  have hlp := U.len
  have hls := Q.len
  have VW := hid V
  have UW := hid U
  have QW := hid Q
  have A0 := hid (Bx2.new w 42 (.slice a n c) (.slice b m d))
  have B0 := hid ((Below.refl w.heap.size w).alloc (Nat.le_refl _) (.cells #[.slice a n c, .slice b m d] 42))
  clear V U Q
  obtain ⟨W, hW⟩ : ∃ W, w.alloc (.cells #[.slice a n c, .slice b m d] 42) = W := ⟨_, rfl⟩
  rw [hW] at A0 B0
  have a0 := A0.out.cell0
  have a1 := A0.out.cell1
  go_enter Try.func5, Try.ntmps5
  go_wp2_with fail
  try rw [hW]
  clear hW
  go_wp2_with fail
  refine (lgreat_calls (VW.out.below B0.out) (UW.out.below B0.out) (QW.out.below B0.out)).mono ?_
  rintro e w1 ⟨⟨g, rfl, hg⟩, b1⟩
  have HB := hid (B0.out.trans (b1.mono B0.out.size))
  have A1 := hid (A0.out.below b1 A0.out.lt)
  have HG := hid hg
  clear hg b1 a0 a1 B0 A0
  cases g
  rotate_left
  · go_wp2_with fail
    refine (fixed_calls _).mono ?_
    rintro e w2 ⟨rfl, b2⟩
    have B2 := hid (HB.out.trans (b2.mono HB.out.size))
    clear b2
    go_wp2_with fail
    go_ret
    exact ⟨rfl, B2.out⟩
  have HSm := hid (show Vc.SmallR rs ps sp from Classical.byContradiction fun h => absurd (HG.out.2 h) (by decide))
  clear HG
  have hn : n ≤ 400 := by have := HSm.out.r; omega
  have hmm : m ≤ 200 := by have := HSm.out.p; omega
  have hns : ns ≤ 20 := by have := HSm.out.s; omega
  have a0 := A1.out.cell0
  have a1 := A1.out.cell1
  go_wp2_with fail
  refine (fromTables_calls (VW.out.below HB.out) (UW.out.below HB.out) (QW.out.below HB.out) (fun i hi => Nat.le_trans (HSm.out.rz i hi) (by decide)) HSm.out.pz (by omega) (by omega)).mono ?_
  rintro e w5 ⟨E5, b5⟩
  have B5 := hid (HB.out.trans (b5.mono HB.out.size))
  have A5 := hid (A1.out.below b5 A1.out.lt)
  clear b5 a0 a1
  rcases E5 with ⟨ts, ms, sp', ta, tn, tc, am, nm, cm, za, zn, zc, hF, rfl, hV⟩ | ⟨hno, rfl⟩
  · have HF := hid hF
    have htl := hV.T.len
    have hml := hV.M.len
    have hzl := hV.S.len
    have htn := hF.may.T.len
    have hmn := hF.may.M.len
    have hsn := hF.may.S.len
    have B6 := hid (B5.out.alloc B5.out.size (.cells #[.slice ta tn tc, .slice am nm cm, .slice za zn zc] 26))
    have b56 := (Below.refl _ w5).alloc (Nat.le_refl _) (.cells #[.slice ta tn tc, .slice am nm cm, .slice za zn zc] 26)
    have X6 := hid (Bx3.new w5 26 (.slice ta tn tc) (.slice am nm cm) (.slice za zn zc))
    have V6 := hid (hV.below b56)
    have A6 := hid (A5.out.alloc (.cells #[.slice ta tn tc, .slice am nm cm, .slice za zn zc] 26))
    have a0 := A6.out.cell0
    have a1 := A6.out.cell1
    obtain ⟨K, hK⟩ : ∃ K, w5.heap.size = K := ⟨_, rfl⟩
    rw [hK] at X6
    clear hF hV b56
    go_wp2_with fail
    refine (rfromTables_calls (VW.out.below B6.out) (UW.out.below B6.out) (QW.out.below B6.out) (by omega) (by omega) (by omega) HSm.out.pz (fun i hi => Nat.le_trans (HSm.out.sz i hi) (by decide))).mono ?_
    rintro e w7 ⟨E7, b7⟩
    have B7 := hid (B6.out.trans (b7.mono B6.out.size))
    have X7 := hid (X6.out.below b7 X6.out.lt)
    have V7 := hid (V6.out.below b7)
    clear b7 B6 X6 V6
    rcases E7 with ⟨ts2, ms2, sp2, ua, un, uc, bm, pm, dm, ya2, yn, yc2, hF2, rfl, hV2⟩ | ⟨hno, _⟩
    · obtain ⟨rfl, rfl, rfl⟩ := HF.out.one hF2
      have b78 := (Below.refl _ w7).alloc (Nat.le_refl _) (.cells #[.slice ua un uc, .slice bm pm dm, .slice ya2 yn yc2] 26)
      have B8 := hid (B7.out.alloc B7.out.size (.cells #[.slice ua un uc, .slice bm pm dm, .slice ya2 yn yc2] 26))
      have X8 := hid (X7.out.alloc (.cells #[.slice ua un uc, .slice bm pm dm, .slice ya2 yn yc2] 26))
      have Y8 := hid (Bx3.new w7 26 (.slice ua un uc) (.slice bm pm dm) (.slice ya2 yn yc2))
      have V8 := hid (V7.out.below b78)
      have U8 := hid (hV2.below b78)
      clear hF2 hV2 b78
      go_wp2_with fail
      refine (fixed_calls _).mono ?_
      rintro e w9 ⟨rfl, b9⟩
      have B9 := hid (B8.out.trans (b9.mono B8.out.size))
      have X9 := hid (X8.out.below b9 X8.out.lt)
      have Y9 := hid (Y8.out.below b9 Y8.out.lt)
      have V9 := hid (V8.out.below b9)
      have U9 := hid (U8.out.below b9)
      clear b9 B8 X8 Y8 V8 U8
      have x0 := X9.out.cell0
      have x1 := X9.out.cell1
      have x2 := X9.out.cell2
      have y0 := Y9.out.cell0
      have y1 := Y9.out.cell1
      have y2 := Y9.out.cell2
      go_wp2_with fail
      refine (vsame_yes V9.out U9.out (by omega) (by omega) (by omega)).mono ?_
      rintro e w10 ⟨rfl, b10⟩
      have B10 := hid (B9.out.trans (b10.mono B9.out.size))
      clear b10
      go_wp2_with fail
      go_ret
      exact ⟨rfl, B10.out⟩
    · exact absurd ⟨_, _, _, HF.out⟩ hno
  · have HF := hid hno
    have B6 := hid (B5.out.alloc B5.out.size (.cells #[.slice none 0 0, .slice none 0 0, .slice none 0 0] 26))
    have X6 := hid (Bx3.new w5 26 (.slice none 0 0) (.slice none 0 0) (.slice none 0 0))
    have A6 := hid (A5.out.alloc (.cells #[.slice none 0 0, .slice none 0 0, .slice none 0 0] 26))
    have a0 := A6.out.cell0
    have a1 := A6.out.cell1
    obtain ⟨K, hK⟩ : ∃ K, w5.heap.size = K := ⟨_, rfl⟩
    rw [hK] at X6
    clear hno
    go_wp2_with fail
    refine (rfromTables_calls (VW.out.below B6.out) (UW.out.below B6.out) (QW.out.below B6.out) (by omega) (by omega) (by omega) HSm.out.pz (fun i hi => Nat.le_trans (HSm.out.sz i hi) (by decide))).mono ?_
    rintro e w7 ⟨E7, b7⟩
    have B7 := hid (B6.out.trans (b7.mono B6.out.size))
    have X7 := hid (X6.out.below b7 X6.out.lt)
    clear b7 B6 X6
    rcases E7 with ⟨ts2, ms2, sp2, ua, un, uc, bm, pm, dm, ya2, yn, yc2, hF2, rfl, hV2⟩ | ⟨_, rfl⟩
    · exact absurd ⟨_, _, _, hF2⟩ HF.out
    · have B8 := hid (B7.out.alloc B7.out.size (.cells #[.slice none 0 0, .slice none 0 0, .slice none 0 0] 26))
      have X8 := hid (X7.out.alloc (.cells #[.slice none 0 0, .slice none 0 0, .slice none 0 0] 26))
      have Y8 := hid (Bx3.new w7 26 (.slice none 0 0) (.slice none 0 0) (.slice none 0 0))
      go_wp2_with fail
      refine (fixed_calls _).mono ?_
      rintro e w9 ⟨rfl, b9⟩
      have B9 := hid (B8.out.trans (b9.mono B8.out.size))
      have X9 := hid (X8.out.below b9 X8.out.lt)
      have Y9 := hid (Y8.out.below b9 Y8.out.lt)
      have Vz := hid (show Vo w9 none 0 0 none 0 0 none 0 0 [] [] [] from ⟨⟨rfl, Nat.le_refl _, Nat.zero_le _, fun _ => ⟨rfl, rfl⟩, fun h => absurd h (by omega)⟩, Qw.none w9 0 none (Nat.zero_le _) (fun _ => rfl), Rw.none w9 0 none (Nat.zero_le _) (fun _ => rfl)⟩)
      clear b9 B8 X8 Y8
      have x0 := X9.out.cell0
      have x1 := X9.out.cell1
      have x2 := X9.out.cell2
      have y0 := Y9.out.cell0
      have y1 := Y9.out.cell1
      have y2 := Y9.out.cell2
      go_wp2_with fail
      refine (vsame_yes Vz.out Vz.out (by omega) (by omega) (by omega)).mono ?_
      rintro e w10 ⟨rfl, b10⟩
      have B10 := hid (B9.out.trans (b10.mono B9.out.size))
      clear b10
      go_wp2_with fail
      go_ret
      exact ⟨rfl, B10.out⟩end Go.Proofs.Ytjpboackbjfenaa
