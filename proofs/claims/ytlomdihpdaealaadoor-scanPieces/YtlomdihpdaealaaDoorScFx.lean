/-
  Stage 12's law: fixed.
-/
import Derived.Test.YtlomdihpdaealaaDoorScF
import Derived.Lib.SlBytesConst
namespace Go.Proofs.YtlomdihpdaealaaDoor
open Go.RowKit
set_option linter.unusedVariables false
/-- A row of texts laid just now. -/
theorem Ts.lit {w : World} {t : TypeId} {cs : Array Value} {xs : List ByteArray} {n : Nat} (h : cs = (tv xs).toArray) (hn : xs.length = n) (hm : n ≤ maxLen) : Ts (w.alloc (.cells cs t)) (some ⟨w.heap.size, 0, none⟩) n n xs := by
  subst h
  refine ⟨hn, Nat.le_refl _, hm, fun e => absurd e (by simp), fun h0 => ⟨w.heap.size, 0, rfl, by simp, fun i hi => ?_⟩⟩
  have := tv_get xs i (by omega)
  have hb := heap_alloc_new w (Obj.cells (tv xs).toArray t)
  simp only [World.cell?, hb]
  simpa using this
theorem bsI : [[73], [39, 108, 108], [32, 103, 111]].map bs = [⟨#[73]⟩, ⟨#[39, 108, 108]⟩, ⟨#[32, 103, 111]⟩] := by decide +kernel
theorem bsA : [[97], [32], [32, 98]].map bs = [⟨#[97]⟩, ⟨#[32]⟩, ⟨#[32, 98]⟩] := by decide +kernel
theorem bsW : [[97], [32], [49, 50, 51], [52, 53], [10, 10], [32, 98]].map bs = [⟨#[97]⟩, ⟨#[32]⟩, ⟨#[49, 50, 51]⟩, ⟨#[52, 53]⟩, ⟨#[10, 10]⟩, ⟨#[32, 98]⟩] := by decide +kernel
theorem stI : St ⟨#[73, 39, 108, 108, 32, 103, 111]⟩ 7 (fun i => exI.getD i 0) := st_lit _ exI rfl (by decide)
theorem stA : St ⟨#[97, 32, 32, 98]⟩ 4 (fun i => exA.getD i 0) := st_lit _ exA rfl (by decide)
theorem stW : St ⟨#[97, 32, 49, 50, 51, 52, 53, 10, 10, 32, 98]⟩ 11 (fun i => exW.getD i 0) := st_lit _ exW rfl (by decide)
set_option maxRecDepth 100000 in
set_option maxHeartbeats 6400000 in
theorem fixed12_calls {w : World} (hE : Ends w) : Calls Tryd.prog 10 #[] w fun e w' => e = .returned (.bool true) ∧ Below w.heap.size w w' := by
  have HE := hid hE
  clear hE
  go_enter Tryd.func10, Tryd.ntmps10
  go_wp2_with fail
  refine (usual12_calls _).mono ?_
  rintro e w1 ⟨rfl, rfl⟩
  have bu := (Below.refl w.heap.size w).alloc (Nat.le_refl _) (.cells uCells 58)
  have R1 := hid (uRs w 58 w.heap.size rfl)
  have HB1 := hid bu
  obtain ⟨W1, hW1⟩ : ∃ W, w.alloc (.cells uCells 58) = W := ⟨_, rfl⟩
  rw [hW1] at R1 HB1 ⊢
  clear bu hW1
  have bq := (Below.refl W1.heap.size W1).alloc (Nat.le_refl _) (.cells #[.int .u8 39, .int .u8 114] 5 (2, 3))
  have Q1 := hid (show Sl (W1.alloc (.cells #[.int .u8 39, .int .u8 114] 5 (2, 3))) (some ⟨W1.heap.size, 0, none⟩) 2 2 (fun i => ([39, 114] : List Int).getD i 0) from ⟨Nat.le_refl _, by decide, fun i => by
    match i with
    | 0 => exact ⟨by decide, by decide⟩
    | 1 => exact ⟨by decide, by decide⟩
    | n + 2 => exact ⟨Int.le_refl 0, by show (0 : Int) ≤ 255; decide⟩, fun e => absurd e (by simp), fun _ => ⟨W1.heap.size, 0, rfl, by simp, fun i hi => by
    have hb := heap_alloc_new W1 (Obj.cells #[.int .u8 39, .int .u8 114] 5 (2, 3))
    obtain rfl | rfl : i = 0 ∨ i = 1 := by omega
    all_goals
      simp only [World.cell?, hb]
      rfl⟩⟩)
  have R2 := hid (R1.out.below bq)
  have HB2 := hid (HB1.out.trans (bq.mono HB1.out.size))
  have HE2 := hid (HE.out.below HB2.out (Nat.le_refl _))
  have hcv : (convert 23 23 (.slice (some ⟨W1.heap.size, 0, none⟩) 2 2)).run Tryd.prog (W1.alloc (.cells #[.int .u8 39, .int .u8 114] 5)) = .ok (.slice (some ⟨W1.heap.size, 0, none⟩) 2 2) (W1.alloc (.cells #[.int .u8 39, .int .u8 114] 5 (2, 3))) := Lib.run_convert_bytes_const W1 23 5 #[.int .u8 39, .int .u8 114] 2 2 Tryd.underlying23 Tryd.underlying5
  clear bq R1 HB1
  go_wp2_with fail
  refine (next_calls 2 R2.out Q1.out (by omega) HE2.out false).mono ?_
  rintro e w3 ⟨rfl, b3⟩
  rw [nxQ]
  unfold NX
  have HB3 := hid (HB2.out.trans (b3.mono HB2.out.size))
  have HE3 := hid (HE.out.below HB3.out (Nat.le_refl _))
  clear b3 hcv Q1 R2 HB2 HE2
  go_wp2_with fail
  refine (cut_calls stI (by omega) HE3.out 2 (by decide)).mono ?_
  rintro e w4 ⟨⟨a4, m4, c4, rfl, T4⟩, b4⟩
  rw [cutI, bsI] at T4
  have HB4 := hid (HB3.out.trans (b4.mono HB3.out.size))
  obtain rfl : m4 = 3 := T4.len.symm
  have bl4 := (Below.refl w4.heap.size w4).alloc (Nat.le_refl _) (.cells #[.string ⟨#[73]⟩, .string ⟨#[39, 108, 108]⟩, .string ⟨#[32, 103, 111]⟩] 9)
  have U4 := hid (T4.below bl4)
  have V4 := hid (show Ts (w4.alloc (.cells #[.string ⟨#[73]⟩, .string ⟨#[39, 108, 108]⟩, .string ⟨#[32, 103, 111]⟩] 9)) (some ⟨w4.heap.size, 0, none⟩) 3 3 [⟨#[73]⟩, ⟨#[39, 108, 108]⟩, ⟨#[32, 103, 111]⟩] from Ts.lit rfl rfl (by decide))
  have HB5 := hid (HB4.out.trans (bl4.mono HB4.out.size))
  clear b4 T4 bl4
  go_wp2_with fail
  refine (same12_yes U4.out V4.out (by omega)).mono ?_
  rintro e w5 ⟨rfl, b5⟩
  have HB6 := hid (HB5.out.trans (b5.mono HB5.out.size))
  have HE6 := hid (HE.out.below HB6.out (Nat.le_refl _))
  clear b5 U4 V4
  go_wp2_with fail
  refine (cut_calls stA (by omega) HE6.out 2 (by decide)).mono ?_
  rintro e w7 ⟨⟨a7, m7, c7, rfl, T7⟩, b7⟩
  rw [cutA, bsA] at T7
  have HB7 := hid (HB6.out.trans (b7.mono HB6.out.size))
  obtain rfl : m7 = 3 := T7.len.symm
  have bl7 := (Below.refl w7.heap.size w7).alloc (Nat.le_refl _) (.cells #[.string ⟨#[97]⟩, .string ⟨#[32]⟩, .string ⟨#[32, 98]⟩] 9)
  have U7 := hid (T7.below bl7)
  have V7 := hid (show Ts (w7.alloc (.cells #[.string ⟨#[97]⟩, .string ⟨#[32]⟩, .string ⟨#[32, 98]⟩] 9)) (some ⟨w7.heap.size, 0, none⟩) 3 3 [⟨#[97]⟩, ⟨#[32]⟩, ⟨#[32, 98]⟩] from Ts.lit rfl rfl (by decide))
  have HB8 := hid (HB7.out.trans (bl7.mono HB7.out.size))
  clear b7 T7 bl7
  go_wp2_with fail
  refine (same12_yes U7.out V7.out (by omega)).mono ?_
  rintro e w8 ⟨rfl, b8⟩
  have HB9 := hid (HB8.out.trans (b8.mono HB8.out.size))
  have HE9 := hid (HE.out.below HB9.out (Nat.le_refl _))
  clear b8 U7 V7
  go_wp2_with fail
  refine (cut_calls stW (by omega) HE9.out 3 (by decide)).mono ?_
  rintro e w10 ⟨⟨a10, m10, c10, rfl, T10⟩, b10⟩
  rw [cutW, bsW] at T10
  have HB10 := hid (HB9.out.trans (b10.mono HB9.out.size))
  obtain rfl : m10 = 6 := T10.len.symm
  have bl10 := (Below.refl w10.heap.size w10).alloc (Nat.le_refl _) (.cells #[.string ⟨#[97]⟩, .string ⟨#[32]⟩, .string ⟨#[49, 50, 51]⟩, .string ⟨#[52, 53]⟩, .string ⟨#[10, 10]⟩, .string ⟨#[32, 98]⟩] 9)
  have U10 := hid (T10.below bl10)
  have V10 := hid (show Ts (w10.alloc (.cells #[.string ⟨#[97]⟩, .string ⟨#[32]⟩, .string ⟨#[49, 50, 51]⟩, .string ⟨#[52, 53]⟩, .string ⟨#[10, 10]⟩, .string ⟨#[32, 98]⟩] 9)) (some ⟨w10.heap.size, 0, none⟩) 6 6 [⟨#[97]⟩, ⟨#[32]⟩, ⟨#[49, 50, 51]⟩, ⟨#[52, 53]⟩, ⟨#[10, 10]⟩, ⟨#[32, 98]⟩] from Ts.lit rfl rfl (by decide))
  have HB11 := hid (HB10.out.trans (bl10.mono HB10.out.size))
  clear b10 T10 bl10
  go_wp2_with fail
  refine (same12_yes U10.out V10.out (by omega)).mono ?_
  rintro e w11 ⟨rfl, b11⟩
  have HB12 := hid (HB11.out.trans (b11.mono HB11.out.size))
  have HE12 := hid (HE.out.below HB12.out (Nat.le_refl _))
  clear b11 U10 V10
  go_wp2_with fail
  go_ret
  exact ⟨rfl, HB12.out⟩
end Go.Proofs.YtlomdihpdaealaaDoor
