/-
  Walk of pair.New.
-/
import Derived.Test.YtfgbpjajkmfkoaaPrMap
namespace Go.Proofs.Ytfgbpjajkmfkoaa
open Go.RowKit Go.Maps
set_option linter.unusedVariables false

theorem run_makeMap_hint {P : Program} {t k e : TypeId} (ht : P.underlying t = some (.map k e)) (q : IntKind) (n : Int) (w : World) : (Instr.makeMap t (some (.int q n))).run P w = .ok (.map (some w.heap.size)) (w.alloc (.map #[] 0)) := by
  simp [Instr.makeMap, run_underlying ht, asInt, asIntOf, Result.andThen]
/-- What New answers. -/
def NwOut (ts : Vc.Toks) (ms : List Mg4) (sp : Vc.Sps) (e : Ending) (w' : World) : Prop :=
  (Vc.May ts ms sp ∧ ∃ B, e = .returned (.tuple #[.pointer (some ⟨B, 0, none⟩), .int .i64 0]) ∧ TbIn w' B ms) ∨ (¬ Vc.May ts ms sp ∧ e = .returned (.tuple #[.pointer none, .int .i64 2]))
theorem is_wf {ts : Vc.Toks} {k : Int} (hT : Vc.MayT ts) (h : Vc.Is ts k) : (Lit.int .i64 k).wf = true := wf_in h.1 (Int.lt_of_lt_of_le h.2.1 (by have := hT.len; omega))

set_option maxRecDepth 100000 in
set_option maxHeartbeats 3200000 in
theorem new_calls {w : World} {a am az : Option Addr} {n c nm cm ns cs : Nat} {ts : Vc.Toks} {ms : List Mg4} {sp : Vc.Sps} (V : Vo w a n c am nm cm az ns cs ts ms sp) (hz : ∀ i, i < n → (at_ ts i).size ≤ maxLen) :
    Calls Try.prog 10 #[.agg #[.slice a n c, .slice am nm cm, .slice az ns cs]] w fun e w' => NwOut ts ms sp e w' ∧ Below w.heap.size w w' := by
  have hlm := V.M.len
  have B0 := hid ((Below.refl w.heap.size w).alloc (Nat.le_refl _) (.cells #[.slice a n c, .slice am nm cm, .slice az ns cs] 26))
  have X0 := hid (Bx3.new w 26 (.slice a n c) (.slice am nm cm) (.slice az ns cs))
  have V0 := hid (V.below B0.out)
  have MW := hid V.M
  have HZ := hid hz
  clear V hz
  have hmm := run_makeMap_hint Try.underlying58
  have x0 := X0.out.cell0
  have x1 := X0.out.cell1
  have x2 := X0.out.cell2
  go_enter Try.func10, Try.ntmps10
  go_wp2_with fail
  refine (may_calls V0.out HZ.out).mono ?_
  rintro e w1 ⟨⟨t, rfl, ht⟩, b1⟩
  have HT := hid ht
  have X1 := hid (X0.out.below b1 X0.out.lt)
  have B1 := hid (B0.out.trans (b1.mono B0.out.size))
  clear ht b1 X0 V0 B0 x0 x1 x2
  cases t
  · have HN := hid (show ¬ Vc.May ts ms sp from fun h => absurd (HT.out.2 h) (by decide))
    go_wp2_with fail
    go_ret2
    exact ⟨.inr ⟨HN.out, rfl⟩, B1.out⟩
  have HM := hid (HT.out.1 rfl)
  clear HT
  have hnm : nm ≤ 16384 := by have := HM.out.M.len; omega
  have X2 := hid (X1.out.alloc (.map #[] 0))
  have B2 := hid (B1.out.alloc B1.out.size (.map #[] 0))
  have S2 := hid (mgIn_none w1 ms)
  have hK0 := B1.out.size
  have x1 := X1.out.cell1
  have x21 := X2.out.cell1
  clear X1 B1
  go_wp2_with fail
  obtain ⟨K, hK⟩ : ∃ K, w1.heap.size = K := ⟨_, rfl⟩
  rw [hK] at S2 hK0 ⊢
  clear hK x1
  go_loopg [17] nm (fun r iv wr => ∃ j : Nat, r = nm - j ∧ iv = .int .i64 (j : Int) ∧ j ≤ nm ∧ Hid (MgIn wr K ms j) ∧ Hid (Below w.heap.size w wr))
  case atStart => exact ⟨0, rfl, rfl, by omega, S2, B2⟩
  case round =>
    obtain ⟨j, rfl, rfl, hj, HS, HB⟩ := hrel
    by_cases hlt : j < nm
    · have k1 : (j : Int) < nm := by omega
      have k0 : (0 : Int) ≤ j := by omega
      have e2 : IntKind.i64.wrap ((j : Int) + 1) = j + 1 := i64_in (by omega) (by omega)
      obtain ⟨b, off, rfl, hbl, hc⟩ := (MW.out.below HB.out).at' (by omega)
      obtain ⟨p0, p1, p2, p3⟩ := hc j hlt
      have hok := HM.out.M.ok j (by omega)
      have wl := is_wf HM.out.T hok.1
      have wr' := is_wf HM.out.T hok.2.1
      have hap : ∀ i, i < j → ¬ ((mat ms i).1 = (mat ms j).1 ∧ (mat ms i).2.1 = (mat ms j).2.1) := fun i hi => (HM.out.M.both i j hi (by omega)).2.1
      obtain ⟨kl, hkl⟩ := key_pp _ _ wl wr'
      have HKl := hid hkl
      have HP := hid (show ∀ D : DataW Unit, IsMap D → MgD ms j D → MgD ms (j + 1) (D.put kl (lm (mat ms j))) from fun D hD hd => mgD_put hD hd hap hkl)
      obtain ⟨⟨x0, x1, x2, x3⟩, hx⟩ : ∃ x, mat ms j = x := ⟨_, rfl⟩
      rw [hx] at p0 p1 p2 p3 HKl HP
      clear hc hx hok wl wr' hap hkl
      have Y3 := hid (Bx4.new wr 34 (.int .i64 x0) (.int .i64 x1) (.int .i64 x2) (.int .i64 x3))
      have B3 := hid (HB.out.alloc HB.out.size (.cells #[.int .i64 x0, .int .i64 x1, .int .i64 x2, .int .i64 x3] 34))
      have S3 := hid (HS.out.alloc (.cells #[.int .i64 x0, .int .i64 x1, .int .i64 x2, .int .i64 x3] 34))
      have y0 := Y3.out.cell0
      have y1 := Y3.out.cell1
      have y2 := Y3.out.cell2
      have y3 := Y3.out.cell3
      obtain ⟨m, D, hmj, ho, hd⟩ := S3.out
      have HD := hid hd
      have HOw := hid ho
      clear S3 hd ho
      go_wp2_with (at_mapUpdate; go_must (refine wpList_mapUpdate_own _ rfl _ _ _ 58 rfl 60 34 Try.keyedP Try.underlying58 mgElem K m _ rfl HOw.out (by unfold maxLen; omega) _ _ _ rfl rfl HKl.out (lm (x0, x1, x2, x3)) [] rfl ?_); intro w7 o7 g7; have O7 := hid o7; have G7 := hid g7; clear o7 g7)
      go_roundg (nm - (j + 1))
      case measure => omega
      case rel => exact ⟨j + 1, rfl, by go_num, by omega, hid ⟨m + 1, _, by omega, O7.out, HP.out _ HOw.out.isMap HD.out⟩, hid (B3.out.grown G7.out B3.out.size (fun k hk => by simp at hk; omega))⟩
    · have hjn : nm = j := by omega
      have k1 : ¬ ((j : Int) < nm) := by omega
      have hlen : ms.length = j := by omega
      have S4 := hid (show MgIn wr K ms ms.length from by rw [hlen]; exact HS.out)
      clear hlen hjn HS
      have Q := hid (show TbIn (wr.alloc (.cells #[.map (some K)] 62)) wr.heap.size ms from ⟨K, by have h := heap_alloc_new wr (Obj.cells #[.map (some K)] 62); simp only [World.cell?, h]; rfl, S4.out.alloc _⟩)
      have B4 := hid (HB.out.alloc HB.out.size (.cells #[.map (some K)] 62))
      go_wp2_with fail
      go_ret2
      exact ⟨.inl ⟨HM.out, _, rfl, Q.out⟩, B4.out⟩
end Go.Proofs.Ytfgbpjajkmfkoaa
