/-
  Walk of vocab.mayMerges.
-/
import Derived.Test.YtfgbpjajkmfkoaaVcW8
namespace Go.Proofs.Ytfgbpjajkmfkoaa
open Go.RowKit Go.Maps
set_option linter.unusedVariables false

/-- The parts that were seen, in memory. -/
def SetIn (w : World) (M : Nat) (ms : List Mg4) (j : Nat) : Prop :=
  ∃ (m : Nat) (D : DataW Unit), m ≤ j ∧ w.ownsMap Try.prog 83 (unitElem (H := Unit)) M m D ∧ ∀ l r kl, keyOf Try.prog 83 (.agg #[.int .i64 l, .int .i64 r]) = some kl → (Maps.has D kl = true ↔ ∃ i, i < j ∧ (mat ms i).1 = l ∧ (mat ms i).2.1 = r)
theorem SetIn.below {w w' : World} {M j N : Nat} {ms : List Mg4} (h : SetIn w M ms j) (hb : Below N w w') (hn : M < N) : SetIn w' M ms j := by
  obtain ⟨m, D, hm, ho, hd⟩ := h
  exact ⟨m, D, hm, owns_below ho hb hn, hd⟩
theorem SetIn.alloc {w : World} {M j : Nat} {ms : List Mg4} (h : SetIn w M ms j) (o : Obj) : SetIn (w.alloc o) M ms j := by
  obtain ⟨m, D, hm, ho, hd⟩ := h
  exact ⟨m, D, hm, ho.alloc o, hd⟩
theorem SetIn.lt {w : World} {M j : Nat} {ms : List Mg4} (h : SetIn w M ms j) : M < w.heap.size := by
  obtain ⟨m, D, hm, ho, hd⟩ := h
  exact ho.lt
theorem setIn_none (w : World) (ms : List Mg4) : SetIn (w.alloc (.map #[] 0)) w.heap.size ms 0 :=
  ⟨0, _, Nat.le_refl _, World.ownsMap_made w _ _ _, fun l r kl _ => ⟨fun h => by simp [Maps.has] at h, fun ⟨i, hi, _⟩ => by omega⟩⟩
theorem seen_put {ms : List Mg4} {j : Nat} {D : DataW Unit} (hD : IsMap D) {l r : Int} {kl : Lit} (hk : keyOf Try.prog 83 (.agg #[.int .i64 l, .int .i64 r]) = some kl) (hl : (mat ms j).1 = l) (hr : (mat ms j).2.1 = r)
    (hd : ∀ l r kl, keyOf Try.prog 83 (.agg #[.int .i64 l, .int .i64 r]) = some kl → (Maps.has D kl = true ↔ ∃ i, i < j ∧ (mat ms i).1 = l ∧ (mat ms i).2.1 = r)) :
    ∀ l r kl', keyOf Try.prog 83 (.agg #[.int .i64 l, .int .i64 r]) = some kl' → (Maps.has (D.put kl (.agg [])) kl' = true ↔ ∃ i, i < j + 1 ∧ (mat ms i).1 = l ∧ (mat ms i).2.1 = r) := by
  intro l' r' kl' hk'
  by_cases he : kl' = kl
  · subst he
    have h := Try.keyed.inj hk hk'
    simp only [Value.agg.injEq, Array.mk.injEq, List.cons.injEq, Value.int.injEq, true_and, and_true] at h
    obtain ⟨e1, e2⟩ := h
    constructor
    · intro _
      exact ⟨j, by omega, by rw [hl]; exact e1, by rw [hr]; exact e2⟩
    · intro _
      exact has_put_same hD (Try.keyed.key hk) _
  · rw [has_put_other he, hd l' r' kl' hk']
    constructor
    · rintro ⟨i, hi, h⟩
      exact ⟨i, by omega, h⟩
    · rintro ⟨i, hi, h1, h2⟩
      by_cases hij : i < j
      · exact ⟨i, hij, h1, h2⟩
      · obtain rfl : i = j := by omega
        exact absurd (by rw [← h1, ← h2, hl, hr, hk] at hk'; exact (Option.some.inj hk').symm) he

theorem row_all {ms : List Mg4} (h : Vc.Row ms) : ∀ k i, i < k → k < ms.length → Vc.Ahead (mat ms i) (mat ms k) ∧ ((mat ms i).2.2.2 = (mat ms k).2.2.2 → (mat ms i).2.2.1 = (mat ms k).2.2.1)
  | 0, i, hi, _ => absurd hi (Nat.not_lt_zero _)
  | k + 1, i, hi, hk => by
    obtain ⟨a1, a2⟩ := h k hk
    by_cases hik : i = k
    · subst hik; exact ⟨a1, a2⟩
    · obtain ⟨b1, b2⟩ := row_all h k i (by omega) (by omega)
      refine ⟨b1.trans a1, fun e => ?_⟩
      have e1 : (mat ms i).2.2.2 = (mat ms k).2.2.2 := by unfold Vc.Ahead at a1 b1; omega
      have e2 : (mat ms k).2.2.2 = (mat ms (k + 1)).2.2.2 := by omega
      rw [b2 e1, a2 e2]
theorem wf_in {x : Int} (h0 : 0 ≤ x) (h1 : x < 4096) : (Lit.int .i64 x).wf = true := by
  simp only [Lit.wf, Bool.and_eq_true, decide_eq_true_eq]
  exact ⟨Int.le_trans (by decide) h0, Int.le_trans (Int.le_of_lt h1) (by decide)⟩

set_option maxRecDepth 100000 in
set_option maxHeartbeats 3200000 in
theorem mayMerges_calls {w : World} {a am az : Option Addr} {n c nm cm ns cs : Nat} {ts : Vc.Toks} {ms : List Mg4} (V : Ts w a n c ts) (M : Qw w am nm cm ms) (hT : Vc.MayT ts) :
    Calls Try.prog 33 #[.agg #[.slice a n c, .slice am nm cm, .slice az ns cs]] w fun e w' => Says e (Vc.MayM ts ms) ∧ Below w.heap.size w w' := by
  have hl := V.len
  have hlm := M.len
  have hn := hT.len
  have B0 := hid ((Below.refl w.heap.size w).alloc (Nat.le_refl _) (.cells #[.slice a n c, .slice am nm cm, .slice az ns cs] 26))
  have X0 := hid (Bx3.new w 26 (.slice a n c) (.slice am nm cm) (.slice az ns cs))
  have s0 : (w.alloc (.cells #[.slice a n c, .slice am nm cm, .slice az ns cs] 26)).heap.size = w.heap.size + 1 := by simp
  have M0 := hid (M.below B0.out)
  have TW := hid V
  have MW := hid M
  have HT := hid hT
  clear V M hT
  have hmm := @run_makeMap Try.prog
  by_cases h0 : (16384 : Int) < nm
  · have HN := hid (show ¬ Vc.MayM ts ms from fun h => by have := h.len; omega)
    go_enter Try.func33, Try.ntmps33
    go_wp2_with fail
    go_ret
    exact ⟨Says.no HN.out, B0.out⟩
  have hm : nm ≤ 16384 := by omega
  go_enter Try.func33, Try.ntmps33
  go_wp2_with fail
  refine (holds_calls M0.out hm).mono ?_
  rintro e w1 ⟨⟨t, rfl, ht⟩, b1⟩
  have HR := hid ht
  have X1 := hid (X0.out.below b1 X0.out.lt)
  have hw1 := b1.size
  rw [s0] at hw1
  have B1 := hid (B0.out.trans (b1.mono B0.out.size))
  clear b1 ht X0 B0 M0
  have x11 := X1.out.cell1
  cases t
  · have HN := hid (show ¬ Vc.MayM ts ms from fun h => by
      have : Vc.Row ms := fun i hi => ⟨(h.both i (i + 1) (by omega) hi).1, (h.both i (i + 1) (by omega) hi).2.2⟩
      exact absurd (HR.out.2 this) (by decide))
    go_wp2_with fail
    go_ret
    exact ⟨Says.no HN.out, B1.out⟩
  have HRow := hid (HR.out.1 rfl)
  clear HR
  have X2 := hid (X1.out.alloc (.map #[] 0))
  have B2 := hid (B1.out.alloc B1.out.size (.map #[] 0))
  have S2 := hid (setIn_none w1 ms)
  have x21 := X2.out.cell1
  clear X1 B1
  go_wp2_with fail
  obtain ⟨K, hK⟩ : ∃ K, w1.heap.size = K := ⟨_, rfl⟩
  rw [hK] at S2 hw1 ⊢
  clear hK
  go_loopg [23] nm (fun r iv wr => ∃ j : Nat, r = nm - j ∧ iv = .int .i64 (j : Int) ∧ j ≤ nm ∧ Hid (∀ i, i < j → Vc.OkM ts (mat ms i)) ∧ Hid (∀ i k, i < k → k < j → ¬ ((mat ms i).1 = (mat ms k).1 ∧ (mat ms i).2.1 = (mat ms k).2.1)) ∧ Hid (SetIn wr K ms j) ∧ Hid (Bx3 wr w.heap.size 26 (.slice a n c) (.slice am nm cm) (.slice az ns cs)) ∧ Hid (Below w.heap.size w wr))
  case atStart => exact ⟨0, rfl, rfl, by omega, hid (fun i hi => by omega), hid (fun i k _ hk => by omega), S2, X2, B2⟩
  case round =>
    obtain ⟨j, rfl, rfl, hj, HA, HP, HS, HX, HB⟩ := hrel
    by_cases hlt : j < nm
    · have k1 : (j : Int) < nm := by omega
      have k0 : (0 : Int) ≤ j := by omega
      have e2 : IntKind.i64.wrap ((j : Int) + 1) = j + 1 := i64_in (by omega) (by omega)
      obtain ⟨b, off, rfl, hbl, hc⟩ := (MW.out.below HB.out).at' (by omega)
      obtain ⟨p0, p1, p2, p3⟩ := hc j hlt
      obtain ⟨⟨x0, x1, x2, x3⟩, hx⟩ : ∃ x, mat ms j = x := ⟨_, rfl⟩
      rw [hx] at p0 p1 p2 p3
      have HQ := hid hx
      have X3 := hid (HX.out.alloc (.cells #[.int .i64 x0, .int .i64 x1, .int .i64 x2, .int .i64 x3] 34))
      have Y3 := hid (Bx4.new wr 34 (.int .i64 x0) (.int .i64 x1) (.int .i64 x2) (.int .i64 x3))
      have B3 := hid (HB.out.alloc HB.out.size (.cells #[.int .i64 x0, .int .i64 x1, .int .i64 x2, .int .i64 x3] 34))
      have S3 := hid (HS.out.alloc (.cells #[.int .i64 x0, .int .i64 x1, .int .i64 x2, .int .i64 x3] 34))
      have z0 := X3.out.cell0
      have z1 := X3.out.cell1
      have z2 := X3.out.cell2
      have y0 := Y3.out.cell0
      have y1 := Y3.out.cell1
      have y2 := Y3.out.cell2
      have y3 := Y3.out.cell3
      clear hc hx
      go_wp2_with fail
      refine (mayMerge_calls (TW.out.below B3.out) HT.out x0 x1 x2 x3).mono ?_
      rintro e w4 ⟨⟨t, rfl, ht⟩, b4⟩
      have HO := hid ht
      have X4 := hid (X3.out.below b4 X3.out.lt)
      have Y4 := hid (Y3.out.below b4 Y3.out.lt)
      have S4 := hid (S3.out.below b4 S3.out.lt)
      have B4 := hid (B3.out.trans (b4.mono B3.out.size))
      clear b4 ht X3 Y3 S3 B3 z0 z1 z2 y0 y1 y2 y3
      cases t
      · have HN := hid (show ¬ Vc.MayM ts ms from fun h => by
          have := h.ok j (by omega)
          rw [HQ.out] at this
          exact absurd (HO.out.2 this) (by decide))
        go_wp2_with fail
        go_ret
        exact ⟨Says.no HN.out, B4.out⟩
      have hok := HO.out.1 rfl
      have w0 := wf_in hok.1.1 (Int.lt_of_lt_of_le hok.1.2.1 (by have := HT.out.len; omega))
      have w1' := wf_in hok.2.1.1 (Int.lt_of_lt_of_le hok.2.1.2.1 (by have := HT.out.len; omega))
      have HOk := hid hok
      clear hok HO
      obtain ⟨kl, hkl⟩ := key_pt x0 x1 w0 w1'
      have y0 := Y4.out.cell0
      have y1 := Y4.out.cell1
      have X5 := hid (X4.out.alloc (.cells #[.int .i64 x0, .int .i64 x1] 83))
      have S5 := hid (S4.out.alloc (.cells #[.int .i64 x0, .int .i64 x1] 83))
      have B5 := hid (B4.out.alloc B4.out.size (.cells #[.int .i64 x0, .int .i64 x1] 83))
      have Z5 := hid (Bx2.new w4 83 (.int .i64 x0) (.int .i64 x1))
      have g0 := Z5.out.cell0
      have g1 := Z5.out.cell1
      obtain ⟨m, D, hmj, ho, hd⟩ := S5.out
      obtain ⟨v, ps, hlk, hv⟩ := ho.look_ok Try.keyed Try.underlying80 (Try.zeroU _) unitElem_mk hkl
      obtain ⟨rfl, _⟩ := unitElem_inv hv
      obtain ⟨t, ht⟩ : ∃ t, Maps.has D kl = t := ⟨_, rfl⟩
      rw [ht] at hlk
      have HHas := hid ht
      have HD := hid hd
      have HOw := hid ho
      have HKl := hid hkl
      clear ht hd ho hkl hv S5 X4 S4 B4 w0 w1'
      have X6 := hid (X5.out.alloc (.cells #[] 84))
      have B6 := hid (B5.out.alloc B5.out.size (.cells #[] 84))
      have Z6 := hid (Z5.out.alloc (.cells #[] 84))
      have O6 := hid (HOw.out.alloc (.cells #[] 84))
      have f0 := Z6.out.cell0
      have f1 := Z6.out.cell1
      cases t
      · go_wp2_with (at_mapUpdate; go_must (refine wpList_mapUpdate_own _ rfl _ _ _ 80 rfl 83 84 Try.keyed Try.underlying80 (unitElem (H := Unit)) K m _ rfl O6.out (by unfold maxLen; omega) _ _ _ rfl rfl HKl.out (.agg []) [] unitElem_mk ?_); intro w7 o7 g7; have O7 := hid o7; have G7 := hid g7; clear o7 g7)
        go_roundg (nm - (j + 1))
        case measure => omega
        case rel =>
          refine ⟨j + 1, rfl, by go_num, by omega, hid (fun i hi => ?_), hid (fun i k hik hk => ?_), hid ⟨m + 1, _, by omega, O7.out, seen_put HOw.out.isMap HKl.out (by rw [HQ.out]) (by rw [HQ.out]) HD.out⟩, hid (X6.out.kept G7.out (by simp; omega)), hid (B6.out.grown G7.out B6.out.size (fun k hk => by simp at hk; omega))⟩
          · by_cases h : i < j
            · exact HA.out i h
            · obtain rfl : i = j := by omega
              rw [HQ.out]; exact HOk.out
          · by_cases h : k < j
            · exact HP.out i k hik h
            · obtain rfl : k = j := by omega
              rw [HQ.out]
              intro hc
              have h2 := (HD.out x0 x1 kl HKl.out).2 ⟨i, hik, hc⟩
              rw [HHas.out] at h2
              cases h2
      · have HN := hid (show ¬ Vc.MayM ts ms from fun h => by
          obtain ⟨i, hi, h1, h2⟩ := (HD.out x0 x1 kl HKl.out).1 HHas.out
          have := (h.both i j hi (by omega)).2.1
          rw [HQ.out] at this
          exact this ⟨h1, h2⟩)
        go_wp2_with fail
        go_ret
        exact ⟨Says.no HN.out, B6.out⟩
    · have k1 : ¬ ((j : Int) < nm) := by omega
      have HN := hid (show Vc.MayM ts ms from ⟨by omega, fun i hi => HA.out i (by omega), fun i k hik hk => ⟨(row_all HRow.out k i hik hk).1, HP.out i k hik (by omega), (row_all HRow.out k i hik hk).2⟩⟩)
      go_wp2_with fail
      go_ret
      exact ⟨Says.yes HN.out, HB.out⟩
end Go.Proofs.Ytfgbpjajkmfkoaa
