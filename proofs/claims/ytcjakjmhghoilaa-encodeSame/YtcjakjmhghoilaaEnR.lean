/-
  Walks of the reference's Encode and Dead.
-/
import Derived.Test.YtcjakjmhghoilaaEnZ
import Derived.Test.YtcjakjmhghoilaaLotS
import Derived.Test.YtcjakjmhghoilaaLotP
import Derived.Test.YtcjakjmhghoilaaScStep
import Derived.Test.YtcjakjmhghoilaaRdStep
namespace Go.Proofs.Ytcjakjmhghoilaa
open Go.RowKit Go.Maps
set_option linter.unusedVariables false
open Pr (it)
/-- A row of tokens, answered. -/
def EnOut (xs : Pr.Row) (e : Ending) (w' : World) : Prop := ∃ a n c, e = .returned (.slice a n c) ∧ Ir w' a n c xs
/-- The same, said of the value answered. -/
def EnV (xs : Pr.Row) (w : World) (v : Value) (w' : World) : Prop := (∃ a n c, v = .slice a n c ∧ Ir w' a n c xs) ∧ Below w.heap.size w w'
theorem en_calls {P : Program} {F : FuncId} {vals : Array Value} {w : World} {xs : Pr.Row} (h : Calls P F vals w fun e w' => EnOut xs e w' ∧ Below w.heap.size w w') : Calls P F vals w fun e w' => ∃ v, e = .returned v ∧ EnV xs w v w' :=
  h.mono fun e w' h => by
    obtain ⟨⟨a, n, c, rfl, h1⟩, h2⟩ := h
    exact ⟨_, rfl, ⟨a, n, c, rfl, h1⟩, h2⟩
theorem ofZ_bt (ts : Vc.Toks) (b : UInt8) : Vc.ofZ ts (mk [b]) = Vc.bt ts b := rfl
theorem one_at {s : ByteArray} {j : Nat} (h : j < s.size) : ∃ b : UInt8, s.extract j (j + 1) = mk [b] ∧ (by_ s)[j]? = some b := by
  obtain ⟨b, h1, _, h3⟩ := by_get h
  refine ⟨b, ?_, h3⟩
  apply by_inj
  rw [by_extract, by_mk, List.take_add_one, h3]
  rw [List.drop_append_of_le_length (by rw [List.length_take, by_length]; omega), List.drop_take_self]
  rfl
/-- The numbers of the first j bytes. -/
def rowTo (ts : Vc.Toks) (s : List UInt8) (j : Nat) : Pr.Row := (s.take j).map (Vc.bt ts)
theorem rowTo_succ {ts : Vc.Toks} {s : List UInt8} {j : Nat} {b : UInt8} (h : s[j]? = some b) : rowTo ts s (j + 1) = rowTo ts s j ++ [Vc.bt ts b] := by
  unfold rowTo
  rw [List.take_add_one, h, List.map_append]
  rfl
theorem rowTo_all {ts : Vc.Toks} {ms : List Mg4} {s : List UInt8} {j : Nat} (h : s.length ≤ j) : Pr.run ms (rowTo ts s j) = Pr.enc ms (Vc.bt ts) s := by
  unfold rowTo Pr.enc
  rw [List.take_of_length_le h]
set_option maxRecDepth 100000 in
set_option maxHeartbeats 6400000 in
theorem rencode_calls {w : World} {a am az : Option Addr} {n c nm cm ns cs : Nat} {ts : Vc.Toks} {ms : List Mg4} {sp : Vc.Sps} (V : Vo w a n c am nm cm az ns cs ts ms sp) (hT : Vc.MayT ts) (hm : nm ≤ 1000000) (s : ByteArray) (hs : s.size ≤ 100000) :
    Calls Try.prog 15 #[.agg #[.slice a n c, .slice am nm cm, .slice az ns cs], .string s] w fun e w' => EnOut (Pr.enc ms (Vc.bt ts) (by_ s)) e w' ∧ Below w.heap.size w w' := by
  obtain ⟨i0, hi, hz0, hz1, hz2⟩ := info_parts Try.infoInt
  have b0 := (Below.refl w.heap.size w).alloc (Nat.le_refl _) (.cells #[.slice a n c, .slice am nm cm, .slice az ns cs] 26)
  have x0 := Bx3.new w 26 (.slice a n c) (.slice am nm cm) (.slice az ns cs)
  have B0 := hid (b0.alloc b0.size (.cells #[] 3))
  have X0 := hid (x0.alloc (.cells #[] 3))
  have O0 := hid (show ((w.alloc (.cells #[.slice a n c, .slice am nm cm, .slice az ns cs] 26)).alloc (.cells #[] 3)).ownsRow (w.heap.size + 1) 3 1 (.slice (some ⟨w.heap.size + 1, 0, none⟩) 0 0) 0 (iv (rowTo ts (by_ s) 0)) from own_empty (w.heap.size + 1) (by simp) (by simp))
  have VW := hid V
  have HT := hid hT
  obtain ⟨N, hN⟩ : ∃ N, s.size = N := ⟨_, rfl⟩
  have HN := hid hN
  rw [hN] at hs
  clear b0 x0 V hT hN
  go_enter Try.func15, Try.ntmps15
  go_wp2_with fail
  go_loopg [5, 6] N (fun r rv kv wr => ∃ (j : Nat) (v : Value), r = N - j ∧ v = rv ∧ kv = .int .i64 (j : Int) ∧ j ≤ N ∧ Hid (wr.ownsRow (w.heap.size + 1) 3 1 v j (iv (rowTo ts (by_ s) j))) ∧ Hid (Bx3 wr w.heap.size 26 (.slice a n c) (.slice am nm cm) (.slice az ns cs)) ∧ Hid (Below w.heap.size w wr))
  case atStart => exact ⟨0, _, rfl, rfl, rfl, by omega, O0, X0, B0⟩
  case round =>
    clear O0 X0 B0
    obtain ⟨j, v, rfl, rfl, rfl, hj, HO, HX, HB⟩ := hrel
    have hlen := HN.out
    by_cases hlt : j < N
    · have l0 : (0 : Int) ≤ j := by omega
      have l1 : (j : Int) < s.size := by omega
      have l2 : IntKind.i64.wrap ((j : Int) + 1) = j + 1 := i64_in (by omega) (by omega)
      have l3 : (j : Int) ≤ j + 1 := by omega
      have l4 : (j : Int) + 1 ≤ N := by omega
      have l5 : (0 : Int) ≤ (j : Int) + 1 := by omega
      obtain ⟨b, hb1, hb2⟩ := one_at (s := s) (j := j) (by omega)
      have hof := rofZ_calls ((VW.out.below HB.out).below (Below.refl _ wr).drew).T HT.out (mk [b])
      rw [ofZ_bt] at hof
      rw [← hb1] at hof
      obtain ⟨S1, hS1⟩ : ∃ S1, s.extract j (j + 1) = S1 := ⟨_, rfl⟩
      rw [hS1] at hof
      obtain ⟨y, hy⟩ : ∃ y, Vc.bt ts b = y := ⟨_, rfl⟩
      rw [hy] at hof
      have HOF := hid hof
      have HR := hid (show rowTo ts (by_ s) (j + 1) = rowTo ts (by_ s) j ++ [y] from by rw [rowTo_succ hb2, hy])
      have c0 := HX.out.cell0
      have sz := HB.out.size
      have hxl := HX.out.lt
      clear hof hy hb1 hb2
      go_wp2_with fail
      go_region_law (first
        | (refine step_call (R := fun w' => w' = wr.drew) (by rfl) 18 _ _ (by rfl) #[.slice a n c, .string S1] (by rfl) (by kernel_rfl) (.int .i64 y) HOF.out ?_; rintro w2 rfl)
        | (refine step_append_src (by rfl) _ _ 36 (by rfl) (w.heap.size + 1) 3 i0 _ 1 8 Try.underlying36 hi hz0 hz1 hz2 rfl (by decide) v j (iv (rowTo ts (by_ s) j)) (by rfl) ((HO.out.drew).alloc _) (some ⟨wr.heap.size, 0, none⟩) 1 1 [.int .i64 y] (by rfl) (Src.new (w := wr.drew) (m := 1) (size := 1) #[.int .i64 y] 3 wr.heap.size rfl rfl (fun u hu => by simp at hu; subst hu; rfl)) (by unfold maxLen; omega) (by omega) (by simp; omega) ?_; intro v4 w4 ho4 hg4 hb4))
      all_goals
        have O5 := hid (show w4.ownsRow (w.heap.size + 1) 3 1 v4 (j + 1) (iv (rowTo ts (by_ s) (j + 1))) from by rw [HR.out, ← iv_append]; exact ho4)
        have X5 := hid (((HX.out.drew).alloc (.cells #[.int .i64 y] 3)).kept hg4 (fun e => by have := (HO.out.lt _ e.symm).1; omega))
        have B5 := hid (((HB.out.drew).alloc sz (.cells #[.int .i64 y] 3)).grown hg4 (by simp; omega) (fun k e => by have := (HO.out.lt k e).1; omega))
        clear ho4 hg4 hb4
        go_wp2_with fail
        go_roundg (N - (j + 1))
        case measure => omega
        case rel => exact ⟨j + 1, v4, rfl, rfl, by go_num, by omega, O5, X5, B5⟩
    · have l1 : ¬ (j : Int) < s.size := by omega
      have HI := hid (Ir.ofOwn HO.out)
      clear HO
      obtain ⟨ao, co, rfl, hI⟩ := HI.out
      have I2 := hid hI
      have c0 := HX.out.cell0
      have c1 := HX.out.cell1
      have c2 := HX.out.cell2
      clear hI HI
      go_wp2_with fail
      refine (rrun_calls (VW.out.below HB.out) I2.out hm (by omega)).mono ?_
      rintro e w2 ⟨⟨a2, n2, c2', rfl, h2⟩, b2⟩
      have H2 := hid h2
      have B2 := hid (HB.out.trans (b2.mono HB.out.size))
      clear h2 b2
      go_wp2_with fail
      go_ret
      exact ⟨⟨_, _, _, rfl, by rw [← rowTo_all (ts := ts) (ms := ms) (s := by_ s) (j := j) (by rw [by_length]; omega)]; exact H2.out⟩, B2.out⟩
set_option maxRecDepth 100000 in
set_option maxHeartbeats 6400000 in
theorem rdead_calls {w : World} {a am az : Option Addr} {n c nm cm ns cs : Nat} {ts : Vc.Toks} {ms : List Mg4} {sp : Vc.Sps} (V : Vo w a n c am nm cm az ns cs ts ms sp) (hT : Vc.MayT ts) (hm : nm ≤ 1000000) :
    Calls Try.prog 22 #[.agg #[.slice a n c, .slice am nm cm, .slice az ns cs]] w fun e w' => EnOut (Pr.dead ts ms ts.length) e w' ∧ Below w.heap.size w w' := by
  obtain ⟨i0, hi, hz0, hz1, hz2⟩ := info_parts Try.infoInt
  have b0 := (Below.refl w.heap.size w).alloc (Nat.le_refl _) (.cells #[.slice a n c, .slice am nm cm, .slice az ns cs] 26)
  have x0 := Bx3.new w 26 (.slice a n c) (.slice am nm cm) (.slice az ns cs)
  have B0 := hid (b0.alloc b0.size (.cells #[] 3))
  have X0 := hid (x0.alloc (.cells #[] 3))
  have O0 := hid (show ((w.alloc (.cells #[.slice a n c, .slice am nm cm, .slice az ns cs] 26)).alloc (.cells #[] 3)).ownsRow (w.heap.size + 1) 3 1 (.slice (some ⟨w.heap.size + 1, 0, none⟩) 0 0) (Pr.dead ts ms 0).length (iv (Pr.dead ts ms 0)) from own_empty (w.heap.size + 1) (by simp) (by simp))
  have VW := hid V
  have HT := hid hT
  have hl := V.T.len
  have hl4 := hT.len
  have y0 := X0.out.cell0
  rw [hl]
  have HL := hid hl
  rw [hl] at hl4
  clear b0 x0 V hT hl
  go_enter Try.func22, Try.ntmps22
  go_wp2_with fail
  go_loopg [3, 10] n (fun r rv kv wr => ∃ (j : Nat) (v : Value), r = n - j ∧ v = rv ∧ kv = .int .i64 (j : Int) ∧ j ≤ n ∧ Hid (wr.ownsRow (w.heap.size + 1) 3 1 v (Pr.dead ts ms j).length (iv (Pr.dead ts ms j))) ∧ Hid (Bx3 wr w.heap.size 26 (.slice a n c) (.slice am nm cm) (.slice az ns cs)) ∧ Hid (Below w.heap.size w wr))
  case atStart => exact ⟨0, _, rfl, rfl, rfl, by omega, O0, X0, B0⟩
  case round =>
    clear O0 X0 B0 y0
    obtain ⟨j, v, rfl, rfl, rfl, hj, HO, HX, HB⟩ := hrel
    by_cases hlt : j < n
    · have l0 : (0 : Int) ≤ j := by omega
      have l1 : (j : Int) < n := by omega
      have l2 : IntKind.i64.wrap ((j : Int) + 1) = j + 1 := i64_in (by omega) (by omega)
      have sz := HB.out.size
      have hxl := HX.out.lt
      have hdl := Pr.dead_len ts ms j
      have VR := hid (VW.out.below HB.out)
      obtain ⟨b, off, rfl, hbl, hc⟩ := VR.out.T.at' (by omega)
      have p0 := hc j hlt
      have hsz := HT.out.sz j (by rw [HL.out]; exact hlt)
      obtain ⟨s, hs⟩ : ∃ s, at_ ts j = s := ⟨_, rfl⟩
      rw [hs] at p0 hsz
      have c0 := HX.out.cell0
      have c1 := HX.out.cell1
      have c2 := HX.out.cell2
      have HDJ := hid (show Pr.dead ts ms (j + 1) = Pr.dead ts ms j ++ (if Pr.deadB ts ms j = true then [(j : Int)] else []) from rfl)
      clear hc
      by_cases hz : s.size = 0
      · have HD := hid (show Pr.dead ts ms (j + 1) = Pr.dead ts ms j from by
          rw [HDJ.out, if_neg (fun h => (Pr.deadB_iff.1 h).1 (by rw [hs]; exact hz)), List.append_nil])
        obtain ⟨e1, e2⟩ := ba_empty hz
        clear hs HDJ
        go_wp2_with fail
        go_roundg (n - (j + 1))
        case measure => omega
        case rel => exact ⟨j + 1, v, rfl, rfl, by go_num, by omega, hid (by rw [HD.out]; exact HO.out), HX, HB⟩
      · obtain ⟨e1, e2⟩ := ba_full hz
        have HC := hid (rencode_calls (VR.out.below (Below.refl _ wr).drew) HT.out hm s (by omega))
        obtain ⟨xs, hxs⟩ : ∃ xs, Pr.enc ms (Vc.bt ts) (by_ s) = xs := ⟨_, rfl⟩
        rw [hxs] at HC
        have HDB := hid (show Pr.deadB ts ms j = true ↔ xs ≠ [(j : Int)] from by
          rw [Pr.deadB_iff, hs, hxs]
          exact ⟨fun h => h.2, fun h => ⟨hz, h⟩⟩)
        have hxl2 := Pr.enc_len (ms := ms) (f := Vc.bt ts) (by_ s)
        rw [hxs, by_length] at hxl2
        clear hs hxs
        go_wp2_with fail
        go_region_law (refine step_call_any (R := EnV xs wr.drew) (by rfl) 15 _ _ (by rfl) #[.agg #[.slice (some ⟨b, off, none⟩) n c, .slice am nm cm, .slice az ns cs], .string s] (by rfl) (by kernel_rfl) (en_calls HC.out) ?_; rintro v2 w2 ⟨⟨a2, n2, q2, rfl, i2⟩, b2⟩)
        all_goals
          have b22 := (Below.refl wr.heap.size wr).drew.trans b2
          have I2 := hid i2
          have O2 := hid (own_below HO.out b22)
          have X2 := hid (HX.out.below b22 HX.out.lt)
          have B2 := hid (HB.out.trans (b22.mono sz))
          have hnl := i2.len
          clear b2 i2
          have s2 := B2.out.size
          have HDt : xs ≠ [(j : Int)] → Pr.dead ts ms (j + 1) = Pr.dead ts ms j ++ [(j : Int)] := fun h => by rw [HDJ.out, if_pos (HDB.out.2 h)]
          by_cases h1 : n2 = 1
          · subst h1
            obtain ⟨b3, o3, rfl, _, hc3⟩ := I2.out.at' (by omega)
            have p3 := hc3 0 (by omega)
            obtain ⟨z, hz2'⟩ : ∃ z, it xs 0 = z := ⟨_, rfl⟩
            rw [hz2', Nat.add_zero] at p3
            have hxs : xs = [z] := by
              match xs, hnl, hz2' with
              | [x], _, h => rw [← h]; rfl
            clear hc3 hnl
            by_cases h2 : z = (j : Int)
            · have HD := hid (show Pr.dead ts ms (j + 1) = Pr.dead ts ms j from by
                rw [HDJ.out, if_neg (fun h => HDB.out.1 h (by rw [hxs, h2])), List.append_nil])
              have e3 : (z != (j : Int)) = false := by rw [h2]; simp
              clear hxs hz2' HDt h2
              go_wp2_with fail
              go_roundg (n - (j + 1))
              case measure => omega
              case rel => exact ⟨j + 1, v, rfl, rfl, by go_num, by omega, hid (by rw [HD.out]; exact O2.out), X2, B2⟩
            · have HD := hid (HDt (by rw [hxs]; intro e; exact h2 (List.cons.inj e).1))
              have e3 : (z != (j : Int)) = true := by simpa using h2
              clear hxs hz2' HDt
              go_wp2_with (at_builtin; refine wpList_append_src rfl _ _ 36 rfl (w.heap.size + 1) 3 i0 _ 1 8 Try.underlying36 hi hz0 hz1 hz2 rfl (by decide) v (Pr.dead ts ms j).length (iv (Pr.dead ts ms j)) rfl (O2.out.alloc _) (some ⟨w2.heap.size, 0, none⟩) 1 1 [.int .i64 (j : Int)] rfl (Src.new #[.int .i64 (j : Int)] 3 w2.heap.size rfl rfl (fun u hu => by simp at hu; subst hu; rfl)) (by unfold maxLen; omega) (by omega) (by simp; omega) ?_; intro v4 w4 ho4 hg4 hb4; have O4 := hid ho4; have G4 := hid hg4; clear ho4 hg4 hb4)
              have O5 := hid (show w4.ownsRow (w.heap.size + 1) 3 1 v4 (Pr.dead ts ms (j + 1)).length (iv (Pr.dead ts ms (j + 1))) from by rw [HD.out, List.length_append, ← iv_append]; exact O4.out)
              have X5 := hid ((X2.out.alloc (.cells #[.int .i64 (j : Int)] 3)).kept G4.out (fun e => by have := (O2.out.lt _ e.symm).1; omega))
              have B5 := hid ((B2.out.alloc B2.out.size (.cells #[.int .i64 (j : Int)] 3)).grown G4.out (by simp; omega) (fun k e => by have := (O2.out.lt k e).1; omega))
              clear O4 G4
              go_roundg (n - (j + 1))
              case measure => omega
              case rel => exact ⟨j + 1, v4, rfl, rfl, by go_num, by omega, O5, X5, B5⟩
          · have HD := hid (HDt (fun e => h1 (by rw [← hnl, e]; rfl)))
            have e3 : ((n2 : Int) != 1) = true := by simp; omega
            clear HDt
            go_wp2_with (at_builtin; refine wpList_append_src rfl _ _ 36 rfl (w.heap.size + 1) 3 i0 _ 1 8 Try.underlying36 hi hz0 hz1 hz2 rfl (by decide) v (Pr.dead ts ms j).length (iv (Pr.dead ts ms j)) rfl (O2.out.alloc _) (some ⟨w2.heap.size, 0, none⟩) 1 1 [.int .i64 (j : Int)] rfl (Src.new #[.int .i64 (j : Int)] 3 w2.heap.size rfl rfl (fun u hu => by simp at hu; subst hu; rfl)) (by unfold maxLen; omega) (by omega) (by simp; omega) ?_; intro v4 w4 ho4 hg4 hb4; have O4 := hid ho4; have G4 := hid hg4; clear ho4 hg4 hb4)
            have O5 := hid (show w4.ownsRow (w.heap.size + 1) 3 1 v4 (Pr.dead ts ms (j + 1)).length (iv (Pr.dead ts ms (j + 1))) from by rw [HD.out, List.length_append, ← iv_append]; exact O4.out)
            have X5 := hid ((X2.out.alloc (.cells #[.int .i64 (j : Int)] 3)).kept G4.out (fun e => by have := (O2.out.lt _ e.symm).1; omega))
            have B5 := hid ((B2.out.alloc B2.out.size (.cells #[.int .i64 (j : Int)] 3)).grown G4.out (by simp; omega) (fun k e => by have := (O2.out.lt k e).1; omega))
            clear O4 G4
            go_roundg (n - (j + 1))
            case measure => omega
            case rel => exact ⟨j + 1, v4, rfl, rfl, by go_num, by omega, O5, X5, B5⟩
    · have l1 : ¬ (j : Int) < n := by omega
      obtain rfl : j = n := by omega
      have HI := hid (Ir.ofOwn HO.out)
      clear HO
      obtain ⟨ao, co, rfl, hI⟩ := HI.out
      have I2 := hid hI
      clear hI HI
      go_wp2_with fail
      go_ret
      exact ⟨⟨_, _, _, rfl, I2.out⟩, HB.out⟩
end Go.Proofs.Ytcjakjmhghoilaa
