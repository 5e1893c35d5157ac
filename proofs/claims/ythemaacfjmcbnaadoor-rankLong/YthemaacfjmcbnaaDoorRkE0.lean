/-
  Walks of rank.mayBe, of the function by which rank.Write looks for rows that may not be, of slices.IndexFunc and slices.ContainsFunc at it, and of the reference's May.
-/
import Derived.Test.YthemaacfjmcbnaaDoorChecked
import Derived.Test.YthemaacfjmcbnaaDoorRk
import Derived.Deep.LoopGhost
namespace Go.Proofs.YthemaacfjmcbnaaDoor
open Go.RowKit
set_option linter.unusedVariables false

/-- A row may be. -/
def Rk.May (t : ByteArray) (k : Int) : Prop := 1 ≤ t.size ∧ t.size ≤ 64 ∧ 0 ≤ k ∧ k ≤ 9999999

theorem Rk.empty_of {t : ByteArray} (h : t.size = 0) : t.toList.isEmpty = true ∧ t.toList = [] := by
  have : t.toList = [] := by rw [by_toList]; exact List.eq_nil_of_length_eq_zero (by rw [by_length, h])
  rw [this]; exact ⟨rfl, rfl⟩
theorem Rk.full_of {t : ByteArray} (h : t.size ≠ 0) : t.toList.isEmpty = false ∧ ¬ t.toList = [] := by
  have : ¬ t.toList = [] := fun e => h (by rw [← by_length, ← by_toList, e]; rfl)
  exact ⟨by cases hx : t.toList with | nil => exact absurd hx this | cons => rfl, this⟩

set_option maxRecDepth 100000 in
set_option maxHeartbeats 1600000 in
theorem mayBe_calls (t : ByteArray) (k : Int) (w : World) :
    Calls Tryd.prog 15 #[.agg #[.string t, .int .i64 k]] w fun e w' => Says e (Rk.May t k) ∧ Below w.heap.size w w' := by
  obtain ⟨T, hT⟩ : ∃ T, t.size = T := ⟨_, rfl⟩
  have HB := hid ((Below.refl w.heap.size w).alloc (Nat.le_refl _) (.cells #[.string t, .int .i64 k] 25))
  by_cases h0 : T = 0
  · have e1 := (Rk.empty_of (hT.trans h0)).1
    have e2 := (Rk.empty_of (hT.trans h0)).2
    have HN := hid (show ¬ Rk.May t k from fun h => by have := h.1; omega)
    go_enter Tryd.func15, Tryd.ntmps15
    go_wp2_with fail
    go_ret
    exact ⟨Says.no HN.out, HB.out⟩
  have e1 := (Rk.full_of (by rw [hT]; exact h0)).1
  have e2 := (Rk.full_of (by rw [hT]; exact h0)).2
  by_cases h1 : T ≤ 64
  · have h1' : (T : Int) ≤ 64 := by omega
    by_cases h2 : 0 ≤ k
    · by_cases h3 : k ≤ 9999999
      · have HN := hid (show Rk.May t k from ⟨by omega, by omega, h2, h3⟩)
        go_enter Tryd.func15, Tryd.ntmps15
        go_wp2_with fail
        go_ret
        exact ⟨Says.yes HN.out, HB.out⟩
      · have h3' : 9999999 < k := by omega
        have HN := hid (show ¬ Rk.May t k from fun h => by have := h.2.2.2; omega)
        go_enter Tryd.func15, Tryd.ntmps15
        go_wp2_with fail
        go_ret
        exact ⟨Says.no HN.out, HB.out⟩
    · have h2' : k < 0 := by omega
      have HN := hid (show ¬ Rk.May t k from fun h => by have := h.2.2.1; omega)
      go_enter Tryd.func15, Tryd.ntmps15
      go_wp2_with fail
      go_ret
      exact ⟨Says.no HN.out, HB.out⟩
  · have h1' : ¬ (T : Int) ≤ 64 := by omega
    have HN := hid (show ¬ Rk.May t k from fun h => by have := h.2.1; omega)
    go_enter Tryd.func15, Tryd.ntmps15
    go_wp2_with fail
    go_ret
    exact ⟨Says.no HN.out, HB.out⟩

set_option maxRecDepth 100000 in
set_option maxHeartbeats 1600000 in
theorem rmay_calls (t : ByteArray) (k : Int) (w : World) :
    Calls Tryd.prog 17 #[.agg #[.string t, .int .i64 k]] w fun e w' => Says e (Rk.May t k) ∧ Below w.heap.size w w' := by
  obtain ⟨T, hT⟩ : ∃ T, t.size = T := ⟨_, rfl⟩
  have HB := hid ((Below.refl w.heap.size w).alloc (Nat.le_refl _) (.cells #[.string t, .int .i64 k] 25))
  by_cases h0 : T = 0
  · have e1 : ¬ (1 : Int) ≤ T := by omega
    have HN := hid (show ¬ Rk.May t k from fun h => by have := h.1; omega)
    go_enter Tryd.func17, Tryd.ntmps17
    go_wp2_with fail
    go_ret
    exact ⟨Says.no HN.out, HB.out⟩
  have e1 : (1 : Int) ≤ T := by omega
  by_cases h1 : T ≤ 64
  · have h1' : (T : Int) ≤ 64 := by omega
    by_cases h2 : 0 ≤ k
    · by_cases h3 : k ≤ 9999999
      · have HN := hid (show Rk.May t k from ⟨by omega, by omega, h2, h3⟩)
        go_enter Tryd.func17, Tryd.ntmps17
        go_wp2_with fail
        go_ret
        exact ⟨Says.yes HN.out, HB.out⟩
      · have h3' : 9999999 < k := by omega
        have HN := hid (show ¬ Rk.May t k from fun h => by have := h.2.2.2; omega)
        go_enter Tryd.func17, Tryd.ntmps17
        go_wp2_with fail
        go_ret
        exact ⟨Says.no HN.out, HB.out⟩
    · have h2' : k < 0 := by omega
      have HN := hid (show ¬ Rk.May t k from fun h => by have := h.2.2.1; omega)
      go_enter Tryd.func17, Tryd.ntmps17
      go_wp2_with fail
      go_ret
      exact ⟨Says.no HN.out, HB.out⟩
  · have h1' : ¬ (T : Int) ≤ 64 := by omega
    have HN := hid (show ¬ Rk.May t k from fun h => by have := h.2.1; omega)
    go_enter Tryd.func17, Tryd.ntmps17
    go_wp2_with fail
    go_ret
    exact ⟨Says.no HN.out, HB.out⟩

set_option maxHeartbeats 1600000 in
theorem mayNot_calls (t : ByteArray) (k : Int) (w : World) :
    Calls Tryd.prog 14 #[.agg #[.string t, .int .i64 k]] w fun e w' => Says e (¬ Rk.May t k) ∧ Below w.heap.size w w' := by
  have HB := hid ((Below.refl w.heap.size w).alloc (Nat.le_refl _) (.cells #[.string t, .int .i64 k] 25))
  go_enter Tryd.func14, Tryd.ntmps14
  go_wp2_with fail
  refine (mayBe_calls t k _).mono ?_
  rintro e w1 ⟨ho, hb1⟩
  have B1 := hid (HB.out.trans (hb1.mono HB.out.size))
  clear hb1
  rcases ho.of with ⟨rfl, h⟩ | ⟨rfl, h⟩
  · have HN := hid h
    clear ho h
    go_wp2_with fail
    go_ret
    exact ⟨Says.no (fun h => h HN.out), B1.out⟩
  · have HN := hid h
    clear ho h
    go_wp2_with fail
    go_ret
    exact ⟨Says.yes HN.out, B1.out⟩

set_option maxRecDepth 100000 in
set_option maxHeartbeats 1600000 in
theorem indexFunc_calls {w : World} {a : Option Addr} {n c : Nat} {xs : List (ByteArray × Int)} (h1 : Rw w a n c xs) (hn : n ≤ 1048576) :
    Calls Tryd.prog 26 #[.slice a n c, .func (.func 14) #[] #[]] w fun e w' =>
      (((∀ i, i < n → Rk.May (tat xs i) (kat xs i)) ∧ e = .returned (.int .i64 (-1))) ∨ (∃ i : Nat, i < n ∧ ¬ Rk.May (tat xs i) (kat xs i) ∧ e = .returned (.int .i64 i))) ∧ Below w.heap.size w w' := by
  have H1 := hid h1
  clear h1
  go_enter Tryd.func26, Tryd.ntmps26
  go_wp2_with fail
  go_loopg [8] n (fun r iv wr => ∃ j : Nat, r = n - j ∧ j ≤ n ∧ iv = .int .i64 j ∧ Hid (∀ i, i < j → Rk.May (tat xs i) (kat xs i)) ∧ Hid (Below w.heap.size w wr))
  case atStart => exact ⟨0, rfl, by omega, rfl, hid (fun i hi => by omega), hid (Below.refl _ _)⟩
  case round =>
    obtain ⟨j, rfl, hj, rfl, HM, HB⟩ := hrel
    by_cases hlt : j < n
    · have k1 : (j : Int) < n := by omega
      have k0 : (0 : Int) ≤ j := by omega
      have e2 : IntKind.i64.wrap ((j : Int) + 1) = j + 1 := i64_in (by omega) (by omega)
      obtain ⟨b, off, rfl, _, hc⟩ := (H1.out.below HB.out).at' (by omega)
      obtain ⟨q1, p1⟩ := hc j hlt
      obtain ⟨t, ht⟩ : ∃ t, tat xs j = t := ⟨_, rfl⟩
      obtain ⟨k, hk⟩ : ∃ k, kat xs j = k := ⟨_, rfl⟩
      rw [ht] at q1
      rw [hk] at p1
      have HTK := hid (And.intro ht hk)
      clear hc ht hk
      go_wp2_with fail
      refine (mayNot_calls t k _).mono ?_
      rintro e w1 ⟨ho, hb1⟩
      have B1 := hid (HB.out.trans (hb1.mono HB.out.size))
      clear hb1 q1 p1
      rcases ho.of with ⟨rfl, h⟩ | ⟨rfl, h⟩
      · have HN := hid h
        clear ho h
        go_wp2_with fail
        go_ret
        exact ⟨.inr ⟨j, hlt, by rw [HTK.out.1, HTK.out.2]; exact HN.out, rfl⟩, B1.out⟩
      · have HN := hid h
        clear ho h
        go_wp2_with fail
        go_roundg (n - (j + 1))
        case measure => omega
        case rel => exact ⟨j + 1, rfl, by omega, by go_num, hid (fun i hi => by
          by_cases h : i < j
          · exact HM.out i h
          · obtain rfl : i = j := by omega
            rw [HTK.out.1, HTK.out.2]
            exact Classical.byContradiction HN.out), B1⟩
    · have k1 : ¬ (j : Int) < n := by omega
      go_wp2_with fail
      go_ret
      exact ⟨.inl ⟨fun i hi => HM.out i (by omega), rfl⟩, HB.out⟩

set_option maxHeartbeats 1600000 in
theorem containsFunc_calls {w : World} {a : Option Addr} {n c : Nat} {xs : List (ByteArray × Int)} (h1 : Rw w a n c xs) (hn : n ≤ 1048576) :
    Calls Tryd.prog 13 #[.slice a n c, .func (.func 14) #[] #[]] w fun e w' =>
      Says e (¬ ∀ i, i < n → Rk.May (tat xs i) (kat xs i)) ∧ Below w.heap.size w w' := by
  have H1 := hid h1
  clear h1
  go_enter Tryd.func13, Tryd.ntmps13
  go_wp2_with fail
  refine (indexFunc_calls H1.out hn).mono ?_
  rintro e w1 ⟨ho, hb1⟩
  have B1 := hid hb1
  clear hb1
  rcases ho with ⟨h, rfl⟩ | ⟨i, hi, h, rfl⟩
  · have HN := hid h
    clear h
    go_wp2_with fail
    go_ret
    exact ⟨Says.no (fun h => h HN.out), B1.out⟩
  · have HN := hid (show ¬ ∀ i, i < n → Rk.May (tat xs i) (kat xs i) from fun hh => h (hh i hi))
    have k0 : (0 : Int) ≤ i := by omega
    clear h
    go_wp2_with fail
    go_ret
    exact ⟨Says.yes HN.out, B1.out⟩
end Go.Proofs.YthemaacfjmcbnaaDoor
