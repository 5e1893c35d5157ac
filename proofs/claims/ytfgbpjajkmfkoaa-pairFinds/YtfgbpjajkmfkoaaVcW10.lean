/-
  Walks of what vocab.maySpecials leans on, and of itself.
-/
import Derived.Test.YtfgbpjajkmfkoaaVcW7
import Derived.Test.YtfgbpjajkmfkoaaVcW3
import Derived.Sort.Walk0
namespace Go.Proofs.Ytfgbpjajkmfkoaa
open Go.RowKit
set_option linter.unusedVariables false

theorem bl_iff (s t : ByteArray) : Op.bytesLess s.toList t.toList = true ↔ Vc.NLt s t := by
  rw [bytesLess_eq, decide_eq_true_eq, by_toList, by_toList]; exact Iff.rfl

set_option maxHeartbeats 800000 in
theorem nameFollow_calls (s1 s2 : ByteArray) (k1 k2 : Int) (w : World) :
    Calls Try.prog 47 #[.agg #[.string s1, .int .i64 k1], .agg #[.string s2, .int .i64 k2]] w fun e w' => Says e (Vc.NLt s1 s2) ∧ Below w.heap.size w w' := by
  have B0 := hid (((Below.refl w.heap.size w).alloc (Nat.le_refl _) (.cells #[.string s1, .int .i64 k1] 55)).alloc (by simp) (.cells #[.string s2, .int .i64 k2] 55))
  obtain ⟨t, ht⟩ : ∃ t, Op.bytesLess s1.toList s2.toList = t := ⟨_, rfl⟩
  have HT := hid (bl_iff s1 s2)
  rw [ht] at HT
  go_enter Try.func47, Try.ntmps47
  go_wp2_with fail
  go_ret
  exact ⟨⟨t, rfl, HT.out⟩, B0.out⟩

theorem four_cells {w w' : World} (h : Below w.heap.size w w') {b : Nat} (hb : b < w.heap.size) {a0 a1 a2 a3 : Nat} {v0 v1 v2 v3 : Value}
    (hs : w.cell? ⟨b, a0, none⟩ = some v0 ∧ w.cell? ⟨b, a1, none⟩ = some v1 ∧ w.cell? ⟨b, a2, none⟩ = some v2 ∧ w.cell? ⟨b, a3, none⟩ = some v3) :
    w'.cell? ⟨b, a0, none⟩ = some v0 ∧ w'.cell? ⟨b, a1, none⟩ = some v1 ∧ w'.cell? ⟨b, a2, none⟩ = some v2 ∧ w'.cell? ⟨b, a3, none⟩ = some v3 := by
  simp only [h.cell (show (⟨b, _, none⟩ : Addr).block < w.heap.size from hb)]
  exact hs

/-- Each name stands ahead of the next one. -/
def Vc.RowS (sp : Vc.Sps) : Prop := ∀ i, i + 1 < sp.length → Vc.NLt (tat sp i) (tat sp (i + 1))

set_option maxRecDepth 100000 in
set_option maxHeartbeats 3200000 in
theorem holdsS_calls {w : World} {a : Option Addr} {n c : Nat} {sp : Vc.Sps} (V : Rw w a n c sp) (hn : n ≤ 16384) :
    Calls Try.prog 48 #[.slice a n c, .func (.func 47) #[] #[]] w fun e w' => Says e (Vc.RowS sp) ∧ Below w.heap.size w w' := by
  have hl := V.len
  have T0 := hid V
  clear V
  go_enter Try.func48, Try.ntmps48
  go_wp2_with fail
  go_loopg [5] n (fun r iv wr => ∃ j : Nat, r = n - j ∧ iv = .int .i64 ((j : Int) + 1) ∧ Hid (∀ i, i < j → i + 1 < n → Vc.NLt (tat sp i) (tat sp (i + 1))) ∧ j ≤ n ∧ Hid (Below w.heap.size w wr))
  case atStart => exact ⟨0, rfl, rfl, hid (fun i hi => by omega), by omega, hid (Below.refl _ _)⟩
  case round =>
    obtain ⟨j, rfl, rfl, HA, hj, HB⟩ := hrel
    by_cases hlt : j + 1 < n
    · have k1 : (j : Int) + 1 < n := by omega
      have k0 : (0 : Int) ≤ j := by omega
      have k2 : (0 : Int) ≤ (j : Int) + 1 := by omega
      have k3 : (j : Int) < n := by omega
      have e1 : IntKind.i64.wrap ((j : Int) + 1 - 1) = j := by rw [i64_in (by omega) (by omega)]; omega
      have e3 : IntKind.i64.wrap (j : Int) = j := i64_in (by omega) (by omega)
      have e4 : (1 : Int) ≤ (j : Int) + 1 := by omega
      have e2 : IntKind.i64.wrap ((j : Int) + 1 + 1) = j + 1 + 1 := i64_in (by omega) (by omega)
      obtain ⟨b, off, rfl, hbl, hc⟩ := (T0.out.below HB.out).at' (by omega)
      obtain ⟨p0, p1⟩ := hc j (by omega)
      obtain ⟨q0, q1⟩ := hc (j + 1) hlt
      obtain ⟨x0, hx0⟩ : ∃ x, tat sp j = x := ⟨_, rfl⟩
      obtain ⟨x1, hx1⟩ : ∃ x, kat sp j = x := ⟨_, rfl⟩
      obtain ⟨y0, hy0⟩ : ∃ x, tat sp (j + 1) = x := ⟨_, rfl⟩
      obtain ⟨y1, hy1⟩ : ∃ x, kat sp (j + 1) = x := ⟨_, rfl⟩
      rw [hx0] at p0
      rw [hx1] at p1
      rw [hy0] at q0
      rw [hy1] at q1
      have HX := hid hx0
      have HY := hid hy0
      clear hc hx0 hx1 hy0 hy1
      go_wp2_with fail
      go_region_held3 (fun w' => w'.cell? ⟨b, off + j * 2, none⟩ = some (.string x0) ∧ w'.cell? ⟨b, off + j * 2 + 1, none⟩ = some (.int .i64 x1) ∧ w'.cell? ⟨b, off + (j + 1) * 2, none⟩ = some (.string y0) ∧ w'.cell? ⟨b, off + (j + 1) * 2 + 1, none⟩ = some (.int .i64 y1)) (first | exact N2.out | go_keep | simp) (first | (go_at_call 47; refine (nameFollow_calls _ _ _ _ _).mono ?_; rintro e w2 ⟨⟨t, rfl, ht⟩, b2⟩; have N2 := hid (four_cells b2 hbl ⟨p0, p1, q0, q1⟩); have B2 := hid (HB.out.drew.trans (b2.mono HB.out.size)); have HT := hid ht; clear b2 ht))
      cases t
      · have HN := hid (show ¬ Vc.RowS sp from fun h => by
          have h1 := h j (by omega)
          rw [HX.out, HY.out] at h1
          simpa using HT.out.2 h1)
        go_wp2_with fail
        go_ret
        exact ⟨Says.no HN.out, B2.out⟩
      · have HN := hid (HT.out.1 rfl)
        go_wp2_with fail
        go_roundg (n - (j + 1))
        case measure => omega
        case rel => exact ⟨j + 1, rfl, by go_num, hid (fun i hi h2 => by
          by_cases h : i < j
          · exact HA.out i h h2
          · obtain rfl : i = j := by omega
            rw [HX.out, HY.out]
            exact HN.out), by omega, B2⟩
    · have k1 : ¬ ((j : Int) + 1 < n) := by omega
      have HN := hid (show Vc.RowS sp from fun i hi => HA.out i (by omega) (by omega))
      go_wp2_with fail
      go_ret
      exact ⟨Says.yes HN.out, HB.out⟩

set_option maxHeartbeats 800000 in
theorem sameID_calls {w : World} {B : Nat} {s : ByteArray} {x : Int} (X : Bx2 w B 55 (.string s) (.int .i64 x)) (s1 : ByteArray) (k1 : Int) :
    Calls Try.prog 51 #[.agg #[.string s1, .int .i64 k1], .pointer (some ⟨B, 0, none⟩)] w fun e w' => Says e (k1 = x) ∧ Below w.heap.size w w' := by
  have B0 := hid ((Below.refl w.heap.size w).alloc (Nat.le_refl _) (.cells #[.string s1, .int .i64 k1] 55))
  have X0 := hid (X.alloc (.cells #[.string s1, .int .i64 k1] 55))
  have x1 := X0.out.cell1
  clear X
  by_cases h : k1 = x
  · subst h
    go_enter Try.func51, Try.ntmps51
    go_wp2_with fail
    go_ret
    exact ⟨Says.yes trivial, B0.out⟩
  · have d : (k1 == x) = false := by simpa using h
    have H := hid h
    clear h
    go_enter Try.func51, Try.ntmps51
    go_wp2_with fail
    go_ret
    exact ⟨Says.no H.out, B0.out⟩

set_option maxHeartbeats 1600000 in
theorem indexFuncS_calls {w : World} {a : Option Addr} {n c B : Nat} {sp : Vc.Sps} {s : ByteArray} {x : Int} (V : Rw w a n c sp) (X : Bx2 w B 55 (.string s) (.int .i64 x)) :
    Calls Try.prog 57 #[.slice a n c, .func (.func 51) #[] #[.pointer (some ⟨B, 0, none⟩)]] w fun e w' => (∃ r : Int, e = .returned (.int .i64 r) ∧ ((0 ≤ r ∧ ∃ i, i < n ∧ kat sp i = x) ∨ (r = -1 ∧ ∀ i, i < n → kat sp i ≠ x))) ∧ Below w.heap.size w w' := by
  have hl := V.len
  have hx : n ≤ 9223372036854775807 := by have := V.le; have := V.mx; unfold maxLen at this; omega
  have T0 := hid V
  have XW := hid X
  clear V X
  go_enter Try.func57, Try.ntmps57
  go_wp2_with fail
  go_loopg [8] n (fun r iv wr => ∃ j : Nat, r = n - j ∧ iv = .int .i64 (j : Int) ∧ j ≤ n ∧ Hid (∀ i, i < j → kat sp i ≠ x) ∧ Hid (Below w.heap.size w wr))
  case atStart => exact ⟨0, rfl, rfl, by omega, hid (fun i hi => by omega), hid (Below.refl _ _)⟩
  case round =>
    obtain ⟨j, rfl, rfl, hj, HA, HB⟩ := hrel
    by_cases hlt : j < n
    · have l0 : (0 : Int) ≤ j := by omega
      have l1 : (j : Int) < n := by omega
      have l2 : IntKind.i64.wrap ((j : Int) + 1) = j + 1 := i64_in (by omega) (by omega)
      obtain ⟨b, off, rfl, hbl, hc⟩ := (T0.out.below HB.out).at' (by omega)
      obtain ⟨q1, q2⟩ := hc j hlt
      obtain ⟨t0, ht⟩ : ∃ t, tat sp j = t := ⟨_, rfl⟩
      obtain ⟨x1, hx1⟩ : ∃ x, kat sp j = x := ⟨_, rfl⟩
      rw [ht] at q1
      rw [hx1] at q2
      have HX := hid hx1
      clear hc ht hx1
      go_wp2_with fail
      refine (sameID_calls (XW.out.below HB.out XW.out.lt) t0 x1).mono ?_
      rintro e w2 ⟨⟨t, rfl, ht⟩, b2⟩
      have HT := hid ht
      have B2 := hid (HB.out.trans (b2.mono HB.out.size))
      clear ht b2
      cases t
      · go_wp2_with fail
        go_roundg (n - (j + 1))
        case measure => omega
        case rel => exact ⟨j + 1, rfl, by go_num, by omega, hid (fun i hi => by
          by_cases h : i < j
          · exact HA.out i h
          · obtain rfl : i = j := by omega
            rw [HX.out]; exact fun e => absurd (HT.out.2 e) (by decide)), B2⟩
      · have HY := hid (HT.out.1 rfl)
        go_wp2_with fail
        go_ret
        exact ⟨⟨_, rfl, .inl ⟨by omega, j, hlt, by rw [HX.out]; exact HY.out⟩⟩, B2.out⟩
    · have l1 : ¬ (j : Int) < n := by omega
      go_wp2_with fail
      go_ret
      exact ⟨⟨_, rfl, .inr ⟨rfl, fun i hi => HA.out i (by omega)⟩⟩, HB.out⟩

set_option maxHeartbeats 800000 in
theorem containsFuncS_calls {w : World} {a : Option Addr} {n c B : Nat} {sp : Vc.Sps} {s : ByteArray} {x : Int} (V : Rw w a n c sp) (X : Bx2 w B 55 (.string s) (.int .i64 x)) :
    Calls Try.prog 52 #[.slice a n c, .func (.func 51) #[] #[.pointer (some ⟨B, 0, none⟩)]] w fun e w' => Says e (∃ i, i < n ∧ kat sp i = x) ∧ Below w.heap.size w w' := by
  go_enter Try.func52, Try.ntmps52
  go_wp2_with fail
  refine (indexFuncS_calls V X).mono ?_
  rintro e w2 ⟨⟨r, rfl, hr⟩, b2⟩
  have B2 := hid b2
  clear b2 V X
  rcases hr with ⟨h0, hi⟩ | ⟨rfl, hi⟩
  · have HI := hid hi
    clear hi
    go_wp2_with fail
    go_ret
    exact ⟨Says.yes HI.out, B2.out⟩
  · have HI := hid (show ¬ ∃ i, i < n ∧ kat sp i = x from fun ⟨i, h1, h2⟩ => hi i h1 h2)
    clear hi
    go_wp2_with fail
    go_ret
    exact ⟨Says.no HI.out, B2.out⟩

theorem nlt_trans {a b c : ByteArray} (h : Vc.NLt a b) (k : Vc.NLt b c) : Vc.NLt a c := List.lt_trans h k
theorem rowS_all {sp : Vc.Sps} (h : Vc.RowS sp) : ∀ k i, i < k → k < sp.length → Vc.NLt (tat sp i) (tat sp k)
  | 0, i, hi, _ => absurd hi (Nat.not_lt_zero _)
  | k + 1, i, hi, hk => by
    by_cases hik : i = k
    · subst hik; exact h i hk
    · exact nlt_trans (rowS_all h k i (by omega) (by omega)) (h k hk)

set_option maxRecDepth 100000 in
set_option maxHeartbeats 3200000 in
theorem maySpecials_calls {w : World} {a am az : Option Addr} {n c nm cm ns cs : Nat} {ts : Vc.Toks} {sp : Vc.Sps} (V : Ts w a n c ts) (Q : Rw w az ns cs sp) :
    Calls Try.prog 35 #[.agg #[.slice a n c, .slice am nm cm, .slice az ns cs]] w fun e w' => Says e (Vc.MayS ts sp) ∧ Below w.heap.size w w' := by
  have hl := V.len
  have hls := Q.len
  have hlc := Q.le
  have B0 := hid ((Below.refl w.heap.size w).alloc (Nat.le_refl _) (.cells #[.slice a n c, .slice am nm cm, .slice az ns cs] 26))
  have X0 := hid (Bx3.new w 26 (.slice a n c) (.slice am nm cm) (.slice az ns cs))
  have s0 : (w.alloc (.cells #[.slice a n c, .slice am nm cm, .slice az ns cs] 26)).heap.size = w.heap.size + 1 := by simp
  have Q0 := hid (Q.below B0.out)
  have TW := hid V
  have QW := hid Q
  clear V Q
  by_cases h0 : (16 : Int) < ns
  · have HN := hid (show ¬ Vc.MayS ts sp from fun h => by have := h.len; omega)
    go_enter Try.func35, Try.ntmps35
    go_wp2_with fail
    go_ret
    exact ⟨Says.no HN.out, B0.out⟩
  have hm : ns ≤ 16 := by omega
  go_enter Try.func35, Try.ntmps35
  go_wp2_with fail
  refine (holdsS_calls Q0.out (by omega)).mono ?_
  rintro e w1 ⟨⟨t, rfl, ht⟩, b1⟩
  have HR := hid ht
  have X1 := hid (X0.out.below b1 X0.out.lt)
  have hw1 := b1.size
  rw [s0] at hw1
  have B1 := hid (B0.out.trans (b1.mono B0.out.size))
  clear b1 ht X0 B0 Q0
  have x12 := X1.out.cell2
  cases t
  · have HN := hid (show ¬ Vc.MayS ts sp from fun h => absurd (HR.out.2 (fun i hi => (h.both i (i + 1) (by omega) hi).1)) (by decide))
    go_wp2_with fail
    go_ret
    exact ⟨Says.no HN.out, B1.out⟩
  have HRow := hid (HR.out.1 rfl)
  clear HR
  go_wp2_with fail
  go_loopg [19] ns (fun r iv wr => ∃ j : Nat, r = ns - j ∧ iv = .int .i64 (j : Int) ∧ j ≤ ns ∧ Hid (∀ i, i < j → Vc.NameOk (tat sp i) ∧ Vc.Emp ts (kat sp i)) ∧ Hid (∀ i k, i < k → k < j → kat sp i ≠ kat sp k) ∧ Hid (Bx3 wr w.heap.size 26 (.slice a n c) (.slice am nm cm) (.slice az ns cs)) ∧ Hid (Below w.heap.size w wr))
  case atStart => exact ⟨0, rfl, rfl, by omega, hid (fun i hi => by omega), hid (fun i k _ hk => by omega), X1, B1⟩
  case round =>
    obtain ⟨j, rfl, rfl, hj, HA, HP, HX, HB⟩ := hrel
    by_cases hlt : j < ns
    · have k1 : (j : Int) < ns := by omega
      have k0 : (0 : Int) ≤ j := by omega
      have kc : (j : Int) ≤ cs := by omega
      have e2 : IntKind.i64.wrap ((j : Int) + 1) = j + 1 := i64_in (by omega) (by omega)
      obtain ⟨b, off, rfl, hbl, hc⟩ := (QW.out.below HB.out).at' (by omega)
      obtain ⟨p0, p1⟩ := hc j hlt
      obtain ⟨s, hs⟩ : ∃ x, tat sp j = x := ⟨_, rfl⟩
      obtain ⟨x, hx⟩ : ∃ x, kat sp j = x := ⟨_, rfl⟩
      rw [hs] at p0
      rw [hx] at p1
      have HS := hid hs
      have HK := hid hx
      have X3 := hid (HX.out.alloc (.cells #[.string s, .int .i64 x] 55))
      have Y3 := hid (Bx2.new wr 55 (.string s) (.int .i64 x))
      have B3 := hid (HB.out.alloc HB.out.size (.cells #[.string s, .int .i64 x] 55))
      have z0 := X3.out.cell0
      have z2 := X3.out.cell2
      have y0 := Y3.out.cell0
      have y1 := Y3.out.cell1
      clear hc hs hx
      go_wp2_with fail
      refine (mayName_calls s _).mono ?_
      rintro e w4 ⟨⟨t, rfl, ht⟩, rfl⟩
      have HO := hid ht
      clear ht
      cases t
      · have HN := hid (show ¬ Vc.MayS ts sp from fun h => by
          have := (h.ok j (by omega)).1
          rw [HS.out] at this
          exact absurd (HO.out.2 this) (by decide))
        go_wp2_with fail
        go_ret
        exact ⟨Says.no HN.out, B3.out⟩
      have HOk := hid (HO.out.1 rfl)
      clear HO
      go_wp2_with fail
      refine (isEmpty_calls (TW.out.below B3.out) x).mono ?_
      rintro e w4 ⟨⟨t, rfl, ht⟩, rfl⟩
      have HO := hid ht
      clear ht
      cases t
      · have HN := hid (show ¬ Vc.MayS ts sp from fun h => by
          have := (h.ok j (by omega)).2
          rw [HK.out] at this
          exact absurd (HO.out.2 this) (by decide))
        go_wp2_with fail
        go_ret
        exact ⟨Says.no HN.out, B3.out⟩
      have HEm := hid (HO.out.1 rfl)
      clear HO
      go_wp2_with fail
      refine (containsFuncS_calls ((QW.out.below B3.out).first j (by omega)) Y3.out).mono ?_
      rintro e w5 ⟨⟨t, rfl, ht⟩, b5⟩
      have HO := hid (show t = true ↔ ∃ i, i < j ∧ kat sp i = x from ht.trans ⟨fun ⟨i, hi, h⟩ => ⟨i, hi, by rw [← h]; simp [kat, List.getD_eq_getElem?_getD, hi]⟩, fun ⟨i, hi, h⟩ => ⟨i, hi, by rw [← h]; simp [kat, List.getD_eq_getElem?_getD, hi]⟩⟩)
      have X5 := hid (X3.out.below b5 X3.out.lt)
      have B5 := hid (B3.out.trans (b5.mono B3.out.size))
      clear ht b5 X3 B3 Y3 z0 z2 y0 y1
      cases t
      · go_wp2_with fail
        go_roundg (ns - (j + 1))
        case measure => omega
        case rel =>
          refine ⟨j + 1, rfl, by go_num, by omega, hid (fun i hi => ?_), hid (fun i k hik hk => ?_), X5, B5⟩
          · by_cases h : i < j
            · exact HA.out i h
            · obtain rfl : i = j := by omega
              rw [HS.out, HK.out]; exact ⟨HOk.out, HEm.out⟩
          · by_cases h : k < j
            · exact HP.out i k hik h
            · obtain rfl : k = j := by omega
              rw [HK.out]
              intro hc
              exact absurd (HO.out.2 ⟨i, hik, hc⟩) (by decide)
      · have HN := hid (show ¬ Vc.MayS ts sp from fun h => by
          obtain ⟨i, hi, h1⟩ := HO.out.1 rfl
          exact (h.both i j hi (by omega)).2 (by rw [h1, HK.out]))
        go_wp2_with fail
        go_ret
        exact ⟨Says.no HN.out, B5.out⟩
    · have k1 : ¬ ((j : Int) < ns) := by omega
      have HN := hid (show Vc.MayS ts sp from ⟨by omega, fun i hi => HA.out i (by omega), fun i k hik hk => ⟨rowS_all HRow.out k i hik hk, HP.out i k hik (by omega)⟩⟩)
      go_wp2_with fail
      go_ret
      exact ⟨Says.yes HN.out, HB.out⟩
end Go.Proofs.Ytfgbpjajkmfkoaa
