/-
  Walks of the function of mayMerges, of vocab.holds at merges, of vocab.mayMerge.
-/
import Derived.Test.YtfgbpjajkmfkoaaVcW2
namespace Go.Proofs.Ytfgbpjajkmfkoaa
open Go.RowKit
set_option linter.unusedVariables false

set_option maxHeartbeats 1600000 in
theorem mayFollow_calls (l1 r1 o1 d1 l2 r2 o2 d2 : Int) (w : World) :
    Calls Try.prog 43 #[.agg #[.int .i64 l1, .int .i64 r1, .int .i64 o1, .int .i64 d1], .agg #[.int .i64 l2, .int .i64 r2, .int .i64 o2, .int .i64 d2]] w fun e w' => Says e (Vc.Fol (l1, r1, o1, d1) (l2, r2, o2, d2)) ∧ Below w.heap.size w w' := by
  have B0 := hid (((Below.refl w.heap.size w).alloc (Nat.le_refl _) (.cells #[.int .i64 l1, .int .i64 r1, .int .i64 o1, .int .i64 d1] 34)).alloc (by simp) (.cells #[.int .i64 l2, .int .i64 r2, .int .i64 o2, .int .i64 d2] 34))
  have X1 := hid ((Bx4.new w 34 (.int .i64 l1) (.int .i64 r1) (.int .i64 o1) (.int .i64 d1)).alloc (.cells #[.int .i64 l2, .int .i64 r2, .int .i64 o2, .int .i64 d2] 34))
  have X2 := hid (Bx4.new (w.alloc (.cells #[.int .i64 l1, .int .i64 r1, .int .i64 o1, .int .i64 d1] 34)) 34 (.int .i64 l2) (.int .i64 r2) (.int .i64 o2) (.int .i64 d2))
  have HA := hid (Vc.cmp_lt (l1, r1, o1, d1) (l2, r2, o2, d2))
  go_enter Try.func43, Try.ntmps43
  go_wp2_with fail
  refine (compare_calls l1 r1 o1 d1 l2 r2 o2 d2 _).mono ?_
  rintro e w1 ⟨rfl, b1, -⟩
  have B1 := hid (B0.out.trans (b1.mono B0.out.size))
  have Y1 := hid (X1.out.below b1 X1.out.lt)
  have Y2 := hid (X2.out.below b1 X2.out.lt)
  rw [show (w.alloc (.cells #[.int .i64 l1, .int .i64 r1, .int .i64 o1, .int .i64 d1] 34)).heap.size = w.heap.size + 1 by simp] at Y2
  have c12 := Y1.out.cell2
  have c13 := Y1.out.cell3
  have c22 := Y2.out.cell2
  have c23 := Y2.out.cell3
  clear b1 X1 X2 B0
  obtain ⟨C, hC⟩ : ∃ C, Vc.cmp (l1, r1, o1, d1) (l2, r2, o2, d2) = C := ⟨_, rfl⟩
  rw [hC] at HA ⊢
  clear hC
  by_cases h1 : C < 0
  · by_cases h2 : d1 = d2
    · by_cases h3 : o1 = o2
      · subst h2 h3
        have HN := hid (show Vc.Fol (l1, r1, o1, d1) (l2, r2, o1, d1) from ⟨HA.out.1 h1, fun _ => rfl⟩)
        go_wp2_with fail
        go_ret
        exact ⟨Says.yes HN.out, B1.out⟩
      · subst h2
        have HN := hid (show ¬ Vc.Fol (l1, r1, o1, d1) (l2, r2, o2, d1) from fun h => h3 (h.2 rfl))
        have d3 : (o1 == o2) = false := by simpa using h3
        go_wp2_with fail
        go_ret
        exact ⟨Says.no HN.out, B1.out⟩
    · have HN := hid (show Vc.Fol (l1, r1, o1, d1) (l2, r2, o2, d2) from ⟨HA.out.1 h1, fun h => absurd h h2⟩)
      have d3 : (d1 == d2) = false := by simpa using h2
      go_wp2_with fail
      go_ret
      exact ⟨Says.yes HN.out, B1.out⟩
  · have d1' : decide (C < (0 : Int)) = false := decide_eq_false h1
    have HN := hid (show ¬ Vc.Fol (l1, r1, o1, d1) (l2, r2, o2, d2) from fun h => h1 (HA.out.2 h.1))
    go_wp2_with fail
    go_ret
    exact ⟨Says.no HN.out, B1.out⟩

theorem eight {w w' : World} (h : Below w.heap.size w w') {b : Nat} (hb : b < w.heap.size) {a0 a1 a2 a3 a4 a5 a6 a7 : Nat} {v0 v1 v2 v3 v4 v5 v6 v7 : Value}
    (hs : w.cell? ⟨b, a0, none⟩ = some v0 ∧ w.cell? ⟨b, a1, none⟩ = some v1 ∧ w.cell? ⟨b, a2, none⟩ = some v2 ∧ w.cell? ⟨b, a3, none⟩ = some v3 ∧ w.cell? ⟨b, a4, none⟩ = some v4 ∧ w.cell? ⟨b, a5, none⟩ = some v5 ∧ w.cell? ⟨b, a6, none⟩ = some v6 ∧ w.cell? ⟨b, a7, none⟩ = some v7) :
    w'.cell? ⟨b, a0, none⟩ = some v0 ∧ w'.cell? ⟨b, a1, none⟩ = some v1 ∧ w'.cell? ⟨b, a2, none⟩ = some v2 ∧ w'.cell? ⟨b, a3, none⟩ = some v3 ∧ w'.cell? ⟨b, a4, none⟩ = some v4 ∧ w'.cell? ⟨b, a5, none⟩ = some v5 ∧ w'.cell? ⟨b, a6, none⟩ = some v6 ∧ w'.cell? ⟨b, a7, none⟩ = some v7 := by
  simp only [h.cell (show (⟨b, _, none⟩ : Addr).block < w.heap.size from hb)]
  exact hs

/-- Each merge may follow the one ahead of it. -/
def Vc.Row (ms : List Mg4) : Prop := ∀ i, i + 1 < ms.length → Vc.Fol (mat ms i) (mat ms (i + 1))

set_option maxRecDepth 100000 in
set_option maxHeartbeats 3200000 in
theorem holds_calls {w : World} {a : Option Addr} {n c : Nat} {ms : List Mg4} (V : Qw w a n c ms) (hn : n ≤ 16384) :
    Calls Try.prog 45 #[.slice a n c, .func (.func 43) #[] #[]] w fun e w' => Says e (Vc.Row ms) ∧ Below w.heap.size w w' := by
  have hl := V.len
  have T0 := hid V
  clear V
  go_enter Try.func45, Try.ntmps45
  go_wp2_with fail
  go_loopg [5] n (fun r iv wr => ∃ j : Nat, r = n - j ∧ iv = .int .i64 ((j : Int) + 1) ∧ Hid (∀ i, i < j → i + 1 < n → Vc.Fol (mat ms i) (mat ms (i + 1))) ∧ j ≤ n ∧ Hid (Below w.heap.size w wr))
  case atStart => exact ⟨0, rfl, rfl, hid (fun i hi => by omega), by omega, hid (Below.refl _ _)⟩
  case round =>
    obtain ⟨j, rfl, rfl, HA, hj, HB⟩ := hrel
    by_cases hlt : j + 1 < n
    · have k1 : (j : Int) + 1 < n := by omega
      have k0 : (0 : Int) ≤ j := by omega
      have k2 : (0 : Int) ≤ (j : Int) + 1 := by omega
      have k3 : (j : Int) < n := by omega
      have e1 : IntKind.i64.wrap ((j : Int) + 1 - 1) = j := by rw [i64_in (by omega) (by omega)]; omega
      have e3 : IntKind.i64.wrap (j : Int) = j := i64_in (by omega) (by omega)
      have e4 : (1 : Int) ≤ (j : Int) + 1 := by omega
      have e2 : IntKind.i64.wrap ((j : Int) + 1 + 1) = j + 1 + 1 := i64_in (by omega) (by omega)
      obtain ⟨b, off, rfl, hbl, hc⟩ := (T0.out.below HB.out).at' (by omega)
      obtain ⟨p0, p1, p2, p3⟩ := hc j (by omega)
      obtain ⟨q0, q1, q2, q3⟩ := hc (j + 1) hlt
      obtain ⟨⟨x0, x1, x2, x3⟩, hx⟩ : ∃ x, mat ms j = x := ⟨_, rfl⟩
      obtain ⟨⟨y0, y1, y2, y3⟩, hy⟩ : ∃ x, mat ms (j + 1) = x := ⟨_, rfl⟩
      rw [hx] at p0 p1 p2 p3
      rw [hy] at q0 q1 q2 q3
      have HX := hid hx
      have HY := hid hy
      clear hc hx hy
      go_wp2_with fail
      go_region_held3 (fun w' => w'.cell? ⟨b, off + j * 4, none⟩ = some (.int .i64 x0) ∧ w'.cell? ⟨b, off + j * 4 + 1, none⟩ = some (.int .i64 x1) ∧ w'.cell? ⟨b, off + j * 4 + 2, none⟩ = some (.int .i64 x2) ∧ w'.cell? ⟨b, off + j * 4 + 3, none⟩ = some (.int .i64 x3) ∧ w'.cell? ⟨b, off + (j + 1) * 4, none⟩ = some (.int .i64 y0) ∧ w'.cell? ⟨b, off + (j + 1) * 4 + 1, none⟩ = some (.int .i64 y1) ∧ w'.cell? ⟨b, off + (j + 1) * 4 + 2, none⟩ = some (.int .i64 y2) ∧ w'.cell? ⟨b, off + (j + 1) * 4 + 3, none⟩ = some (.int .i64 y3)) (first | exact N2.out | go_keep | simp) (first | (go_at_call 43; refine (mayFollow_calls _ _ _ _ _ _ _ _ _).mono ?_; rintro e w2 ⟨⟨t, rfl, ht⟩, b2⟩; have N2 := hid (eight b2 hbl ⟨p0, p1, p2, p3, q0, q1, q2, q3⟩); have B2 := hid (HB.out.drew.trans (b2.mono HB.out.size)); have HT := hid ht; clear b2 ht))
      cases t
      · have HN := hid (show ¬ Vc.Row ms from fun h => by
          have h1 := h j (by omega)
          rw [HX.out, HY.out] at h1
          simpa using HT.out.2 h1)
        go_wp2_with fail
        go_ret
        exact ⟨Says.no HN.out, B2.out⟩
      · have HN := hid (HT.out.1 rfl)
        go_wp2_with fail
        go_roundg (n - (j + 1))
        case measure => omega
        case rel => exact ⟨j + 1, rfl, by go_num, hid (fun i hi h2 => by
          by_cases h : i < j
          · exact HA.out i h h2
          · obtain rfl : i = j := by omega
            rw [HX.out, HY.out]
            exact HN.out), by omega, B2⟩
    · have k1 : ¬ ((j : Int) + 1 < n) := by omega
      have HN := hid (show Vc.Row ms from fun i hi => HA.out i (by omega) (by omega))
      go_wp2_with fail
      go_ret
      exact ⟨Says.yes HN.out, HB.out⟩
end Go.Proofs.Ytfgbpjajkmfkoaa
