/-
  Walks of merge.isWrongToken, isWrongRow, isWrongPair, of slices.IndexFunc and ContainsFunc at them, of merge.writing, and of the reference's part.
-/
import Derived.Test.YtecbmonbeogdjaaDoorMgFile
import Derived.Test.YtecbmonbeogdjaaDoorMgW1
import Derived.Test.YtecbmonbeogdjaaDoorLotE
import Derived.Deep.LoopGhost
namespace Go.Proofs.YtecbmonbeogdjaaDoor
open Go.RowKit
set_option linter.unusedVariables false

/-- A token may be. -/
def TokOk (t : ByteArray) : Prop := 1 ≤ t.size ∧ t.size ≤ 64
theorem wrongTok_calls (t : ByteArray) (w : World) :
    Calls Tryd.prog 26 #[.string t] w fun e w' => Says e (¬ TokOk t) ∧ w' = w := by
  by_cases h0 : t.size = 0
  · have e1 := (Rk.empty_of h0).1
    have e2 := (Rk.empty_of h0).2
    have HN := hid (show ¬ TokOk t from fun h => by have := h.1; omega)
    clear h0
    go_enter Tryd.func26, Tryd.ntmps26
    go_wp2_with fail
    go_ret
    exact ⟨Says.yes HN.out, rfl⟩
  · have e1 := (Rk.full_of h0).1
    have e2 := (Rk.full_of h0).2
    by_cases h1 : 64 < t.size
    · have HN := hid (show ¬ TokOk t from fun h => by have := h.2; omega)
      go_enter Tryd.func26, Tryd.ntmps26
      go_wp2_with (go_at_call 36; refine (isLong_calls _ _).mono ?_; rintro e w2 ⟨rfl, rfl⟩; rw [decide_eq_true h1])
      go_ret
      exact ⟨Says.yes HN.out, rfl⟩
    · have HN := hid (show TokOk t from ⟨by omega, by omega⟩)
      go_enter Tryd.func26, Tryd.ntmps26
      go_wp2_with (go_at_call 36; refine (isLong_calls _ _).mono ?_; rintro e w2 ⟨rfl, rfl⟩; rw [decide_eq_false h1])
      go_ret
      exact ⟨Says.no (fun h => h HN.out), rfl⟩

set_option maxHeartbeats 1600000 in
theorem wrongRow_calls (t : ByteArray) (k : Int) (w : World) :
    Calls Tryd.prog 13 #[.agg #[.string t, .int .i64 k]] w fun e w' => Says e (¬ Mg.MayR (t, k)) ∧ Below w.heap.size w w' := by
  have HB := hid ((Below.refl w.heap.size w).alloc (Nat.le_refl _) (.cells #[.string t, .int .i64 k] 43))
  have HD := hid (show Mg.MayR (t, k) ↔ TokOk t ∧ 0 ≤ k ∧ k ≤ 9999999 from ⟨fun h => ⟨⟨h.1, h.2.1⟩, h.2.2.1, h.2.2.2⟩, fun h => ⟨h.1.1, h.1.2, h.2.1, h.2.2⟩⟩)
  by_cases h2 : k < 0
  · go_enter Tryd.func13, Tryd.ntmps13
    go_wp2_with fail
    refine (wrongTok_calls t _).mono ?_
    rintro e w1 ⟨ho, rfl⟩
    rcases ho.of with ⟨rfl, h⟩ | ⟨rfl, h⟩
    · clear ho h
      go_wp2_with fail
      go_ret
      exact ⟨Says.yes (fun h => by have := (HD.out.1 h).2.1; omega), HB.out⟩
    · clear ho h
      go_wp2_with fail
      go_ret
      exact ⟨Says.yes (fun h => by have := (HD.out.1 h).2.1; omega), HB.out⟩
  · by_cases h3 : 9999999 < k
    · go_enter Tryd.func13, Tryd.ntmps13
      go_wp2_with fail
      refine (wrongTok_calls t _).mono ?_
      rintro e w1 ⟨ho, rfl⟩
      rcases ho.of with ⟨rfl, h⟩ | ⟨rfl, h⟩
      · clear ho h
        go_wp2_with fail
        go_ret
        exact ⟨Says.yes (fun h => by have := (HD.out.1 h).2.2; omega), HB.out⟩
      · clear ho h
        go_wp2_with fail
        go_ret
        exact ⟨Says.yes (fun h => by have := (HD.out.1 h).2.2; omega), HB.out⟩
    · have d3 : decide ((9999999 : Int) < k) = false := decide_eq_false h3
      have d2 : decide (k < (0 : Int)) = false := decide_eq_false h2
      go_enter Tryd.func13, Tryd.ntmps13
      go_wp2_with fail
      refine (wrongTok_calls t _).mono ?_
      rintro e w1 ⟨ho, rfl⟩
      rcases ho.of with ⟨rfl, h⟩ | ⟨rfl, h⟩
      · have HN := hid h
        clear ho h
        go_wp2_with fail
        go_ret
        exact ⟨Says.yes (fun h => HN.out (HD.out.1 h).1), HB.out⟩
      · have HN := hid h
        clear ho h
        go_wp2_with fail
        go_ret
        exact ⟨Says.no (fun h => h (HD.out.2 ⟨Classical.byContradiction HN.out, by omega, by omega⟩)), HB.out⟩

set_option maxHeartbeats 1600000 in
theorem wrongPair_calls (t k : ByteArray) (w : World) :
    Calls Tryd.prog 15 #[.agg #[.string t, .string k]] w fun e w' => Says e (¬ Mg.MayP (t, k)) ∧ Below w.heap.size w w' := by
  have HB := hid ((Below.refl w.heap.size w).alloc (Nat.le_refl _) (.cells #[.string t, .string k] 45))
  go_enter Tryd.func15, Tryd.ntmps15
  go_wp2_with fail
  refine (wrongTok_calls t _).mono ?_
  rintro e w1 ⟨ho, rfl⟩
  rcases ho.of with ⟨rfl, h⟩ | ⟨rfl, h⟩
  · have HN := hid h
    clear ho h
    go_wp2_with fail
    go_ret
    exact ⟨Says.yes (fun h => HN.out h.1), HB.out⟩
  · have HN := hid h
    clear ho h
    go_wp2_with fail
    refine (wrongTok_calls k _).mono ?_
    rintro e w1 ⟨ho, rfl⟩
    rcases ho.of with ⟨rfl, h⟩ | ⟨rfl, h⟩
    · have HN2 := hid h
      clear ho h
      go_wp2_with fail
      go_ret
      exact ⟨Says.yes (fun h => HN2.out h.2), HB.out⟩
    · have HN2 := hid h
      clear ho h
      go_wp2_with fail
      go_ret
      exact ⟨Says.no (fun h => h ⟨Classical.byContradiction HN.out, Classical.byContradiction HN2.out⟩), HB.out⟩

set_option maxHeartbeats 1600000 in
theorem part_calls (t : ByteArray) (w : World) :
    Calls Tryd.prog 21 #[.string t] w fun e w' => Says e (TokOk t) ∧ w' = w := by
  by_cases h0 : 1 ≤ t.size
  · have h0' : (1 : Int) ≤ t.size := by omega
    by_cases h1 : t.size ≤ 64
    · have h1' : (t.size : Int) ≤ 64 := by omega
      have HN := hid (show TokOk t from ⟨h0, h1⟩)
      go_enter Tryd.func21, Tryd.ntmps21
      go_wp2_with fail
      go_ret
      exact ⟨Says.yes HN.out, rfl⟩
    · have h1' : ¬ (t.size : Int) ≤ 64 := by omega
      have HN := hid (show ¬ TokOk t from fun h => h1 h.2)
      go_enter Tryd.func21, Tryd.ntmps21
      go_wp2_with fail
      go_ret
      exact ⟨Says.no HN.out, rfl⟩
  · have h0' : ¬ (1 : Int) ≤ t.size := by omega
    have HN := hid (show ¬ TokOk t from fun h => h0 h.1)
    go_enter Tryd.func21, Tryd.ntmps21
    go_wp2_with fail
    go_ret
    exact ⟨Says.no HN.out, rfl⟩

set_option maxHeartbeats 1600000 in
theorem writing_calls (t : ByteArray) (w : World) (hsz : t.size ≤ 100000) :
    Calls Tryd.prog 16 #[.string t] w fun e w' => e = .returned (.string (Mg.wrS t)) ∧ Below w.heap.size w w' := by
  obtain ⟨cap, w1, cv, hsl, hb1, hw1⟩ := conv_bytes (P := Tryd.prog) w 9 28 5 Tryd.underlying9 Tryd.underlying28 Tryd.underlying5 (St.any t) (by unfold maxLen; omega)
  have S1 := hid hsl
  have B1 := hid hb1
  clear hsl hb1 hw1
  go_enter Tryd.func16, Tryd.ntmps16
  go_wp2_with fail
  refine (lwrite_calls _ t.size cap (bytesF t) _ hsz S1.out).mono ?_
  rintro e w2 ⟨rfl, hb2⟩
  have B2 := hid (B1.out.trans (hb2.mono B1.out.size))
  clear hb2
  go_wp2_with fail
  go_ret
  exact ⟨rfl, B2.out⟩

set_option maxRecDepth 100000 in
set_option maxHeartbeats 1600000 in
theorem mIndexFunc_calls {w : World} {a : Option Addr} {n c : Nat} {xs : List (ByteArray × Int)} (h1 : Rw w a n c xs) (hn : n ≤ 1048576) :
    Calls Tryd.prog 25 #[.slice a n c, .func (.func 13) #[] #[]] w fun e w' =>
      (((∀ i, i < n → Mg.MayR (tat xs i, kat xs i)) ∧ e = .returned (.int .i64 (-1))) ∨ (∃ i : Nat, i < n ∧ ¬ Mg.MayR (tat xs i, kat xs i) ∧ e = .returned (.int .i64 i))) ∧ Below w.heap.size w w' := by
  have H1 := hid h1
  clear h1
  go_enter Tryd.func25, Tryd.ntmps25
  go_wp2_with fail
  go_loopg [8] n (fun r iv wr => ∃ j : Nat, r = n - j ∧ j ≤ n ∧ iv = .int .i64 j ∧ Hid (∀ i, i < j → Mg.MayR (tat xs i, kat xs i)) ∧ Hid (Below w.heap.size w wr))
  case atStart => exact ⟨0, rfl, by omega, rfl, hid (fun i hi => by omega), hid (Below.refl _ _)⟩
  case round =>
    obtain ⟨j, rfl, hj, rfl, HM, HB⟩ := hrel
    by_cases hlt : j < n
    · have k1 : (j : Int) < n := by omega
      have k0 : (0 : Int) ≤ j := by omega
      have e2 : IntKind.i64.wrap ((j : Int) + 1) = j + 1 := i64_in (by omega) (by omega)
      obtain ⟨b, off, rfl, _, hc⟩ := (H1.out.below HB.out).at' (by omega)
      obtain ⟨q1, p1⟩ := hc j hlt
      obtain ⟨t, ht⟩ : ∃ t, tat xs j = t := ⟨_, rfl⟩
      obtain ⟨k, hk⟩ : ∃ k, kat xs j = k := ⟨_, rfl⟩
      rw [ht] at q1
      rw [hk] at p1
      have HTK := hid (And.intro ht hk)
      clear hc ht hk
      go_wp2_with fail
      refine (wrongRow_calls t k _).mono ?_
      rintro e w1 ⟨ho, hb1⟩
      have B1 := hid (HB.out.trans (hb1.mono HB.out.size))
      clear hb1 q1 p1
      rcases ho.of with ⟨rfl, h⟩ | ⟨rfl, h⟩
      · have HN := hid h
        clear ho h
        go_wp2_with fail
        go_ret
        exact ⟨.inr ⟨j, hlt, by rw [HTK.out.1, HTK.out.2]; exact HN.out, rfl⟩, B1.out⟩
      · have HN := hid h
        clear ho h
        go_wp2_with fail
        go_roundg (n - (j + 1))
        case measure => omega
        case rel => exact ⟨j + 1, rfl, by omega, by go_num, hid (fun i hi => by
          by_cases h : i < j
          · exact HM.out i h
          · obtain rfl : i = j := by omega
            rw [HTK.out.1, HTK.out.2]
            exact Classical.byContradiction HN.out), B1⟩
    · have k1 : ¬ (j : Int) < n := by omega
      go_wp2_with fail
      go_ret
      exact ⟨.inl ⟨fun i hi => HM.out i (by omega), rfl⟩, HB.out⟩

set_option maxHeartbeats 1600000 in
theorem mContains_calls {w : World} {a : Option Addr} {n c : Nat} {xs : List (ByteArray × Int)} (h1 : Rw w a n c xs) (hn : n ≤ 1048576) :
    Calls Tryd.prog 12 #[.slice a n c, .func (.func 13) #[] #[]] w fun e w' =>
      Says e (¬ Mg.All xs) ∧ Below w.heap.size w w' := by
  have H1 := hid h1
  have HI := hid (Mg.all_iff h1.len)
  clear h1
  go_enter Tryd.func12, Tryd.ntmps12
  go_wp2_with fail
  refine (mIndexFunc_calls H1.out hn).mono ?_
  rintro e w1 ⟨ho, hb1⟩
  have B1 := hid hb1
  clear hb1
  rcases ho with ⟨h, rfl⟩ | ⟨i, hi, h, rfl⟩
  · have HN := hid h
    clear h
    go_wp2_with fail
    go_ret
    exact ⟨Says.no (fun h => h (HI.out.2 HN.out)), B1.out⟩
  · have HN := hid (show ¬ Mg.All xs from fun hh => h (HI.out.1 hh i hi))
    have k0 : (0 : Int) ≤ i := by omega
    clear h
    go_wp2_with fail
    go_ret
    exact ⟨Says.yes HN.out, B1.out⟩

set_option maxRecDepth 100000 in
set_option maxHeartbeats 1600000 in
theorem mIndexFuncP_calls {w : World} {a : Option Addr} {n c : Nat} {xs : List (ByteArray × ByteArray)} (h1 : Pw w a n c xs) (hn : n ≤ 1048576) :
    Calls Tryd.prog 27 #[.slice a n c, .func (.func 15) #[] #[]] w fun e w' =>
      (((∀ i, i < n → Mg.MayP (lat xs i, gat xs i)) ∧ e = .returned (.int .i64 (-1))) ∨ (∃ i : Nat, i < n ∧ ¬ Mg.MayP (lat xs i, gat xs i) ∧ e = .returned (.int .i64 i))) ∧ Below w.heap.size w w' := by
  have H1 := hid h1
  clear h1
  go_enter Tryd.func27, Tryd.ntmps27
  go_wp2_with fail
  go_loopg [8] n (fun r iv wr => ∃ j : Nat, r = n - j ∧ j ≤ n ∧ iv = .int .i64 j ∧ Hid (∀ i, i < j → Mg.MayP (lat xs i, gat xs i)) ∧ Hid (Below w.heap.size w wr))
  case atStart => exact ⟨0, rfl, by omega, rfl, hid (fun i hi => by omega), hid (Below.refl _ _)⟩
  case round =>
    obtain ⟨j, rfl, hj, rfl, HM, HB⟩ := hrel
    by_cases hlt : j < n
    · have k1 : (j : Int) < n := by omega
      have k0 : (0 : Int) ≤ j := by omega
      have e2 : IntKind.i64.wrap ((j : Int) + 1) = j + 1 := i64_in (by omega) (by omega)
      obtain ⟨b, off, rfl, _, hc⟩ := (H1.out.below HB.out).at' (by omega)
      obtain ⟨q1, p1⟩ := hc j hlt
      obtain ⟨t, ht⟩ : ∃ t, lat xs j = t := ⟨_, rfl⟩
      obtain ⟨k, hk⟩ : ∃ k, gat xs j = k := ⟨_, rfl⟩
      rw [ht] at q1
      rw [hk] at p1
      have HTK := hid (And.intro ht hk)
      clear hc ht hk
      go_wp2_with fail
      refine (wrongPair_calls t k _).mono ?_
      rintro e w1 ⟨ho, hb1⟩
      have B1 := hid (HB.out.trans (hb1.mono HB.out.size))
      clear hb1 q1 p1
      rcases ho.of with ⟨rfl, h⟩ | ⟨rfl, h⟩
      · have HN := hid h
        clear ho h
        go_wp2_with fail
        go_ret
        exact ⟨.inr ⟨j, hlt, by rw [HTK.out.1, HTK.out.2]; exact HN.out, rfl⟩, B1.out⟩
      · have HN := hid h
        clear ho h
        go_wp2_with fail
        go_roundg (n - (j + 1))
        case measure => omega
        case rel => exact ⟨j + 1, rfl, by omega, by go_num, hid (fun i hi => by
          by_cases h : i < j
          · exact HM.out i h
          · obtain rfl : i = j := by omega
            rw [HTK.out.1, HTK.out.2]
            exact Classical.byContradiction HN.out), B1⟩
    · have k1 : ¬ (j : Int) < n := by omega
      go_wp2_with fail
      go_ret
      exact ⟨.inl ⟨fun i hi => HM.out i (by omega), rfl⟩, HB.out⟩

set_option maxHeartbeats 1600000 in
theorem mContainsP_calls {w : World} {a : Option Addr} {n c : Nat} {xs : List (ByteArray × ByteArray)} (h1 : Pw w a n c xs) (hn : n ≤ 1048576) :
    Calls Tryd.prog 14 #[.slice a n c, .func (.func 15) #[] #[]] w fun e w' =>
      Says e (¬ Mg.AllP xs) ∧ Below w.heap.size w w' := by
  have H1 := hid h1
  have HI := hid (Mg.allP_iff h1.len)
  clear h1
  go_enter Tryd.func14, Tryd.ntmps14
  go_wp2_with fail
  refine (mIndexFuncP_calls H1.out hn).mono ?_
  rintro e w1 ⟨ho, hb1⟩
  have B1 := hid hb1
  clear hb1
  rcases ho with ⟨h, rfl⟩ | ⟨i, hi, h, rfl⟩
  · have HN := hid h
    clear h
    go_wp2_with fail
    go_ret
    exact ⟨Says.no (fun h => h (HI.out.2 HN.out)), B1.out⟩
  · have HN := hid (show ¬ Mg.AllP xs from fun hh => h (HI.out.1 hh i hi))
    have k0 : (0 : Int) ≤ i := by omega
    clear h
    go_wp2_with fail
    go_ret
    exact ⟨Says.yes HN.out, B1.out⟩
end Go.Proofs.YtecbmonbeogdjaaDoor
