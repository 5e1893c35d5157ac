/-
  Walks of the law's fixed and great.
-/
import Derived.Test.YtcjakjmhghoilaaEnQ
import Derived.Test.YtcjakjmhghoilaaLotS
import Derived.Lib.SlBytesConst
import Derived.Lib.SlBytesRow
namespace Go.Proofs.Ytcjakjmhghoilaa
open Go.RowKit Go.Maps
set_option linter.unusedVariables false
open Pr (it)
/-- No more than is gone through. -/
def Pr.SmallE (ts : Vc.Toks) (ms : List Mg4) (sp : Vc.Sps) (n : Nat) : Prop := Vc.Small ts ms sp ∧ n ≤ 60
set_option maxRecDepth 100000 in
set_option maxHeartbeats 3200000 in
theorem egreat_calls {w : World} {a am az ar : Option Addr} {n c nm cm ns cs m d : Nat} {ts : Vc.Toks} {ms : List Mg4} {sp : Vc.Sps} (V : Vo w a n c am nm cm az ns cs ts ms sp) :
    Calls Try.prog 9 #[.agg #[.slice a n c, .slice am nm cm, .slice az ns cs], .slice ar m d] w fun e w' => Says e (¬ Pr.SmallE ts ms sp m) ∧ Below w.heap.size w w' := by
  have B0 := hid ((Below.refl w.heap.size w).alloc (Nat.le_refl _) (.cells #[.slice a n c, .slice am nm cm, .slice az ns cs] 26))
  have X0 := hid (Bx3.new w 26 (.slice a n c) (.slice am nm cm) (.slice az ns cs))
  have V0 := hid (V.below B0.out)
  clear V
  have x0 := X0.out.cell0
  have x1 := X0.out.cell1
  have x2 := X0.out.cell2
  go_enter Try.func9, Try.ntmps9
  go_wp2_with fail
  refine (rgreat_calls V0.out).mono ?_
  rintro e w1 ⟨⟨g, rfl, hg⟩, b1⟩
  have HG := hid hg
  have B1 := hid (B0.out.trans (b1.mono B0.out.size))
  clear hg b1
  cases g
  · have hS : Vc.Small ts ms sp := Classical.byContradiction fun h => absurd (HG.out.2 h) (by decide)
    have HS := hid hS
    clear hS
    by_cases hm : (60 : Int) < m
    · have HN := hid (show ¬ Pr.SmallE ts ms sp m from fun h => by have := h.2; omega)
      go_wp2_with fail
      go_ret
      exact ⟨Says.yes HN.out, B1.out⟩
    · have hd : decide ((60 : Int) < m) = false := decide_eq_false hm
      have HN := hid (show ¬ ¬ Pr.SmallE ts ms sp m from fun h => h ⟨HS.out, by omega⟩)
      go_wp2_with fail
      go_ret
      exact ⟨Says.no HN.out, B1.out⟩
  · have HN := hid (show ¬ Pr.SmallE ts ms sp m from fun h => HG.out.1 rfl h.1)
    go_wp2_with fail
    go_ret
    exact ⟨Says.yes HN.out, B1.out⟩
/-- A few bytes, told by a list. -/
def lf (l : List Int) : Nat → Int := fun i => l.getD i 0
theorem lf_bd {l : List Int} (h : ∀ x ∈ l, 0 ≤ x ∧ x ≤ 255) (i : Nat) : 0 ≤ lf l i ∧ lf l i ≤ 255 := by
  unfold lf
  by_cases hi : i < l.length
  · rw [List.getD_eq_getElem?_getD, List.getElem?_eq_getElem hi]
    exact h _ (List.getElem_mem hi)
  · rw [List.getD_eq_getElem?_getD, List.getElem?_eq_none (by omega)]
    decide
/-- A row of bytes that was just laid, marked or not. -/
theorem sl_laid {w : World} (l : List Int) (n : Nat) (hn : l.length = n) (cs : Array Value) (hc : ∀ i, i < n → cs[i]? = some (.int .u8 (lf l i))) (t : TypeId) (fr : Nat × Nat) (h : ∀ x ∈ l, 0 ≤ x ∧ x ≤ 255) (hm : n ≤ maxLen) : Sl (w.alloc (.cells cs t fr)) (some ⟨w.heap.size, 0, none⟩) n n (lf l) :=
  ⟨Nat.le_refl _, hm, lf_bd h, fun e => absurd e (by simp), fun _ => ⟨w.heap.size, 0, rfl, by simp, fun i hi => by
    rw [World.cell?_alloc_mark]
    simpa using hc i hi⟩⟩
theorem ex3_str : by_ (str (lf [97, 98, 99]) 3) = [97, 98, 99] := by decide
theorem ex4_str : by_ (str (lf [97, 98, 99, 100]) 4) = [97, 98, 99, 100] := by decide
set_option maxRecDepth 100000 in
set_option maxHeartbeats 12800000 in
theorem efixed_calls (w : World) : Calls Try.prog 10 #[] w fun e w' => e = .returned (.bool true) ∧ Below w.heap.size w w' := by
  have B0 := hid ((Below.refl w.heap.size w).alloc (Nat.le_refl _) (.cells #[.string { data := #[97, 98] }, .string { data := #[98, 99] }, .string { data := #[97, 98, 99] }] 9))
  have T0 := hid (show Ts (w.alloc (.cells #[.string { data := #[97, 98] }, .string { data := #[98, 99] }, .string { data := #[97, 98, 99] }] 9)) (some ⟨w.heap.size, 0, none⟩) 3 3 Vc.ex3 from ⟨rfl, Nat.le_refl _, by decide, (fun e => (by cases e)), fun _ => ⟨w.heap.size, 0, rfl, by simp, fun i hi => by
    have h := heap_alloc_new w (Obj.cells #[.string { data := #[97, 98] }, .string { data := #[98, 99] }, .string { data := #[97, 98, 99] }] 9)
    simp only [World.cell?, h]
    match i, hi with
    | 0, _ => rfl
    | 1, _ => rfl
    | 2, _ => rfl⟩⟩)
  go_enter Try.func10, Try.ntmps10
  go_wp2_with fail
  refine (letters_calls T0.out (by omega)).mono ?_
  rintro e w1 ⟨E1, b1⟩
  have B1 := hid (B0.out.trans (b1.mono B0.out.size))
  clear b1 B0 T0
  rcases E1 with ⟨ts, ms, sp', a, n, c, am, nm, cm, az, ns, cs, hF, rfl, hV⟩ | ⟨hno, _⟩
  rotate_left
  · exact absurd ⟨_, _, _, Vc.ex3_from⟩ hno
  obtain ⟨rfl, rfl, rfl⟩ := Vc.ex3_from.one hF
  clear hF
  have hnl := hV.T.len
  have B2 := hid (B1.out.alloc B1.out.size (.cells #[.slice a n c, .slice am nm cm, .slice az ns cs] 26))
  have V2 := hid (hV.below ((Below.refl _ w1).alloc (Nat.le_refl _) (.cells #[.slice a n c, .slice am nm cm, .slice az ns cs] 26)))
  have X2 := hid (Bx3.new w1 26 (.slice a n c) (.slice am nm cm) (.slice az ns cs))
  have HN := hid hnl
  clear hV B1 hnl
  have x0 := X2.out.cell0
  have x1 := X2.out.cell1
  have x2 := X2.out.cell2
  go_wp2_with fail
  refine (enew_calls V2.out (fun i hi => Nat.le_trans (Vc.ex_sz Vc.ex3_ex (by rw [← HN.out, Vc.exT_len] at hi; exact hi)).2 (by decide))).mono ?_
  rintro e w3 ⟨E3, b3⟩
  have B3 := hid (B2.out.trans (b3.mono B2.out.size))
  clear b3 B2 V2 X2 x0 x1 x2
  rcases E3 with ⟨hM, B, rfl, hT⟩ | ⟨hM, _⟩
  rotate_left
  · exact absurd Vc.ex3_from.may hM
  have HT := hid hT
  clear hT hM HN
  have B4 := hid (B3.out.alloc B3.out.size (.cells #[.string { data := #[98, 99] }, .string { data := #[97, 98] }, .string { data := #[99, 100] }, .string { data := #[97, 98, 99, 100] }] 9))
  have c4 := (Below.refl _ w3).alloc (Nat.le_refl _) (.cells #[.string { data := #[98, 99] }, .string { data := #[97, 98] }, .string { data := #[99, 100] }, .string { data := #[97, 98, 99, 100] }] 9)
  have C4 := hid (HT.out.below c4)
  have T4 := hid (show Ts (w3.alloc (.cells #[.string { data := #[98, 99] }, .string { data := #[97, 98] }, .string { data := #[99, 100] }, .string { data := #[97, 98, 99, 100] }] 9)) (some ⟨w3.heap.size, 0, none⟩) 4 4 Vc.ex4 from ⟨rfl, Nat.le_refl _, by decide, (fun e => (by cases e)), fun _ => ⟨w3.heap.size, 0, rfl, by simp, fun i hi => by
    have h := heap_alloc_new w3 (Obj.cells #[.string { data := #[98, 99] }, .string { data := #[97, 98] }, .string { data := #[99, 100] }, .string { data := #[97, 98, 99, 100] }] 9)
    simp only [World.cell?, h]
    match i, hi with
    | 0, _ => rfl
    | 1, _ => rfl
    | 2, _ => rfl
    | 3, _ => rfl⟩⟩)
  clear c4 B3 HT
  go_wp2_with fail
  refine (letters_calls T4.out (by omega)).mono ?_
  rintro e w5 ⟨E5, b5⟩
  have B5 := hid (B4.out.trans (b5.mono B4.out.size))
  have C5 := hid (C4.out.below b5)
  clear b5 B4 T4 C4
  rcases E5 with ⟨ts, ms, sp', a', n', c', am', nm', cm', az', ns', cs', hF, rfl, hV⟩ | ⟨hno, _⟩
  rotate_left
  · exact absurd ⟨_, _, _, Vc.ex4_from⟩ hno
  obtain ⟨rfl, rfl, rfl⟩ := Vc.ex4_from.one hF
  clear hF
  have hnl := hV.T.len
  have c6 := (Below.refl w5.heap.size w5).alloc (Nat.le_refl _) (.cells #[.slice a' n' c', .slice am' nm' cm', .slice az' ns' cs'] 26)
  have B6 := hid (B5.out.alloc B5.out.size (.cells #[.slice a' n' c', .slice am' nm' cm', .slice az' ns' cs'] 26))
  have V6 := hid (hV.below c6)
  have C6 := hid (C5.out.below c6)
  have X6 := hid (Bx3.new w5 26 (.slice a' n' c') (.slice am' nm' cm') (.slice az' ns' cs'))
  have HN := hid hnl
  clear hV B5 C5 hnl c6
  have x0 := X6.out.cell0
  have x1 := X6.out.cell1
  have x2 := X6.out.cell2
  go_wp2_with fail
  refine (enew_calls V6.out (fun i hi => Nat.le_trans (Vc.ex_sz Vc.ex4_ex (by rw [← HN.out, Vc.exT_len] at hi; exact hi)).2 (by decide))).mono ?_
  rintro e w7 ⟨E7, b7⟩
  have B7 := hid (B6.out.trans (b7.mono B6.out.size))
  have C7 := hid (C6.out.below b7)
  clear b7 B6 C6 V6 X6 x0 x1 x2
  rcases E7 with ⟨hM, D, rfl, hT⟩ | ⟨hM, _⟩
  rotate_left
  · exact absurd Vc.ex4_from.may hM
  have D7 := hid hT
  clear hT hM HN
  have c8 := (Below.refl w7.heap.size w7).alloc (Nat.le_refl _) (.cells #[.int .u8 97, .int .u8 98, .int .u8 99] 5 (3, 4))
  have B8 := hid (B7.out.alloc B7.out.size (.cells #[.int .u8 97, .int .u8 98, .int .u8 99] 5 (3, 4)))
  have C8 := hid (C7.out.below c8)
  have D8 := hid (D7.out.below c8)
  have S8 := hid (sl_laid (w := w7) [97, 98, 99] 3 rfl #[.int .u8 97, .int .u8 98, .int .u8 99] (fun i hi => by
    match i, hi with
    | 0, _ => rfl
    | 1, _ => rfl
    | 2, _ => rfl) 5 (3, 4) (by decide) (by decide))
  have hcv : (convert 27 27 (.slice (some ⟨w7.heap.size, 0, none⟩) 3 3)).run Try.prog (w7.alloc (.cells #[.int .u8 97, .int .u8 98, .int .u8 99] 5)) = .ok (.slice (some ⟨w7.heap.size, 0, none⟩) 3 3) (w7.alloc (.cells #[.int .u8 97, .int .u8 98, .int .u8 99] 5 (3, 4))) := Lib.run_convert_bytes_const w7 27 5 #[.int .u8 97, .int .u8 98, .int .u8 99] 3 3 Try.underlying27 Try.underlying5
  clear c8 B7 C7 D7
  go_wp2_with fail
  refine (eenc_calls C8.out S8.out (by omega)).mono ?_
  rintro e w9 ⟨⟨a9, n9, c9, rfl, i9⟩, b9⟩
  rw [ex3_str, Vc.ex3_enc] at i9
  have I9 := hid i9
  have B9 := hid (B8.out.trans (b9.mono B8.out.size))
  have D9 := hid (D8.out.below b9)
  clear i9 b9 hcv B8 C8 D8 S8
  have c10 := (Below.refl w9.heap.size w9).alloc (Nat.le_refl _) (.cells #[.int .i64 258] 3)
  have B10 := hid (B9.out.alloc B9.out.size (.cells #[.int .i64 258] 3))
  have D10 := hid (D9.out.below c10)
  have I10 := hid (I9.out.below c10)
  have J10 := hid (Ir.block (xs := [258]) (n := 1) rfl (heap_alloc_new w9 (.cells #[.int .i64 258] 3)) (by decide))
  clear c10 B9 D9 I9
  go_wp2_with fail
  refine (says_is (b := true) (same_calls I10.out J10.out) (by simp)).mono ?_
  rintro e w11 ⟨rfl, b11⟩
  have B11 := hid (B10.out.trans (b11.mono B10.out.size))
  have D11 := hid (D10.out.below b11)
  clear b11 B10 D10 I10 J10
  have c12 := (Below.refl w11.heap.size w11).alloc (Nat.le_refl _) (.cells #[.int .u8 97, .int .u8 98, .int .u8 99, .int .u8 100] 5 (4, 5))
  have B12 := hid (B11.out.alloc B11.out.size (.cells #[.int .u8 97, .int .u8 98, .int .u8 99, .int .u8 100] 5 (4, 5)))
  have D12 := hid (D11.out.below c12)
  have S12 := hid (sl_laid (w := w11) [97, 98, 99, 100] 4 rfl #[.int .u8 97, .int .u8 98, .int .u8 99, .int .u8 100] (fun i hi => by
    match i, hi with
    | 0, _ => rfl
    | 1, _ => rfl
    | 2, _ => rfl
    | 3, _ => rfl) 5 (4, 5) (by decide) (by decide))
  have hcv : (convert 27 27 (.slice (some ⟨w11.heap.size, 0, none⟩) 4 4)).run Try.prog (w11.alloc (.cells #[.int .u8 97, .int .u8 98, .int .u8 99, .int .u8 100] 5)) = .ok (.slice (some ⟨w11.heap.size, 0, none⟩) 4 4) (w11.alloc (.cells #[.int .u8 97, .int .u8 98, .int .u8 99, .int .u8 100] 5 (4, 5))) := Lib.run_convert_bytes_const w11 27 5 #[.int .u8 97, .int .u8 98, .int .u8 99, .int .u8 100] 4 4 Try.underlying27 Try.underlying5
  clear c12 B11 D11
  go_wp2_with fail
  refine (eenc_calls D12.out S12.out (by omega)).mono ?_
  rintro e w13 ⟨⟨a13, n13, c13, rfl, i13⟩, b13⟩
  rw [ex4_str, Vc.ex4_enc] at i13
  have I13 := hid i13
  have B13 := hid (B12.out.trans (b13.mono B12.out.size))
  have D13 := hid (D12.out.below b13)
  clear i13 b13 hcv B12 D12 S12
  have c14 := (Below.refl w13.heap.size w13).alloc (Nat.le_refl _) (.cells #[.int .i64 97, .int .i64 256, .int .i64 100] 3)
  have B14 := hid (B13.out.alloc B13.out.size (.cells #[.int .i64 97, .int .i64 256, .int .i64 100] 3))
  have D14 := hid (D13.out.below c14)
  have I14 := hid (I13.out.below c14)
  have J14 := hid (Ir.block (xs := [97, 256, 100]) (n := 3) rfl (heap_alloc_new w13 (.cells #[.int .i64 97, .int .i64 256, .int .i64 100] 3)) (by decide))
  clear c14 B13 D13 I13
  go_wp2_with fail
  refine (says_is (b := true) (same_calls I14.out J14.out) (by simp)).mono ?_
  rintro e w15 ⟨rfl, b15⟩
  have B15 := hid (B14.out.trans (b15.mono B14.out.size))
  have D15 := hid (D14.out.below b15)
  clear b15 B14 D14 I14 J14
  go_wp2_with fail
  refine (edead_calls D15.out).mono ?_
  rintro e w17 ⟨⟨a17, n17, c17, rfl, i17⟩, b17⟩
  rw [Vc.ex4_dead] at i17
  have I17 := hid i17
  have B17 := hid (B15.out.trans (b17.mono B15.out.size))
  clear i17 b17 B15 D15
  have c18 := (Below.refl w17.heap.size w17).alloc (Nat.le_refl _) (.cells #[.int .i64 259] 3)
  have B18 := hid (B17.out.alloc B17.out.size (.cells #[.int .i64 259] 3))
  have I18 := hid (I17.out.below c18)
  have J18 := hid (Ir.block (xs := [259]) (n := 1) rfl (heap_alloc_new w17 (.cells #[.int .i64 259] 3)) (by decide))
  clear c18 B17 I17
  go_wp2_with fail
  refine (says_is (b := true) (same_calls I18.out J18.out) (by simp)).mono ?_
  rintro e w19 ⟨rfl, b19⟩
  have B19 := hid (B18.out.trans (b19.mono B18.out.size))
  clear b19 B18
  go_wp2_with fail
  go_ret
  exact ⟨rfl, B19.out⟩
end Go.Proofs.Ytcjakjmhghoilaa
