/-
  Walks of the reference's Of, is, ahead, MayName, Great.
-/
import Derived.Test.YtfgbpjajkmfkoaaVcW7
namespace Go.Proofs.Ytfgbpjajkmfkoaa
open Go.RowKit
set_option linter.unusedVariables false

theorem says_is {P : Program} {f : FuncId} {args : Array Value} {w : World} {p : Prop} {b : Bool} {Q : World → Prop} (h : Calls P f args w fun e w' => Says e p ∧ Q w') (hb : b = true ↔ p) : Calls P f args w fun e w' => e = .returned (.bool b) ∧ Q w' :=
  h.mono fun e w' ⟨⟨t, h1, h2⟩, h3⟩ => ⟨by
    have : t = b := by
      cases t <;> cases b <;> simp_all
    rw [h1, this], h3⟩

set_option maxHeartbeats 1600000 in
theorem rof_calls {w : World} {a : Option Addr} {n c : Nat} {ts : Vc.Toks} (V : Ts w a n c ts) (s : ByteArray) :
    Calls Try.prog 36 #[.slice a n c, .string s] w fun e w' => (∃ r, e = .returned (.int .i64 r) ∧ Vc.OfIs ts s r) ∧ w' = w := by
  have hl := V.len
  have hx : n ≤ 9223372036854775807 := by have := V.le; have := V.mx; unfold maxLen at this; omega
  have T0 := hid V
  clear V
  by_cases hz : s.size = 0
  · have e1 := (ba_empty hz).1
    have e2 := (ba_empty hz).2
    have HZ := hid hz
    clear hz
    go_enter Try.func36, Try.ntmps36
    go_wp2_with fail
    go_ret
    exact ⟨⟨_, rfl, .inl ⟨HZ.out, rfl⟩⟩, rfl⟩
  have e1 := (ba_full hz).1
  have e2 := (ba_full hz).2
  have HZ := hid hz
  clear hz
  go_enter Try.func36, Try.ntmps36
  go_wp2_with fail
  go_loopg [10] n (fun r iv wr => ∃ j : Nat, r = n - j ∧ j ≤ n ∧ iv = .int .i64 j ∧ Hid (∀ i, i < j → at_ ts i ≠ s) ∧ w = wr)
  case atStart => exact ⟨0, rfl, by omega, rfl, hid (fun i hi => by omega), rfl⟩
  case round =>
    obtain ⟨j, rfl, hj, rfl, HA, rfl⟩ := hrel
    by_cases hlt : j < n
    · have l0 : (0 : Int) ≤ j := by omega
      have l1 : (j : Int) < n := by omega
      have l2 : IntKind.i64.wrap ((j : Int) + 1) = j + 1 := i64_in (by omega) (by omega)
      obtain ⟨b, off, rfl, hbl, hc⟩ := T0.out.at' (by omega)
      have q1 := hc j hlt
      obtain ⟨t, ht⟩ : ∃ t, at_ ts j = t := ⟨_, rfl⟩
      rw [ht] at q1
      have HT := hid ht
      clear hc ht
      by_cases hs : t = s
      · subst hs
        go_wp2_with fail
        go_ret
        exact ⟨⟨_, rfl, .inr ⟨HZ.out, .inl ⟨j, rfl, by omega, HT.out, HA.out⟩⟩⟩, rfl⟩
      · have e1 : ¬ t.toList = s.toList := fun h => hs (ba_eq h)
        have e2 : (t.toList == s.toList) = false := beq_eq_false_iff_ne.mpr e1
        go_wp2_with fail
        go_roundg (n - (j + 1))
        case measure => omega
        case rel => exact ⟨j + 1, rfl, by omega, by go_num, hid (fun i hi => by
          by_cases h : i < j
          · exact HA.out i h
          · obtain rfl : i = j := by omega
            rw [HT.out]; exact hs), rfl⟩
    · have l1 : ¬ (j : Int) < n := by omega
      go_wp2_with fail
      go_ret
      exact ⟨⟨_, rfl, .inr ⟨HZ.out, .inr ⟨rfl, fun i hi => HA.out i (by omega)⟩⟩⟩, rfl⟩

set_option maxHeartbeats 800000 in
theorem ris_calls {w : World} {a : Option Addr} {n c : Nat} {ts : Vc.Toks} (V : Ts w a n c ts) (k : Int) :
    Calls Try.prog 37 #[.slice a n c, .int .i64 k] w fun e w' => Says e (Vc.Is ts k) ∧ w' = w := by
  have hl := V.len
  have T0 := hid V
  clear V
  by_cases h0 : 0 ≤ k
  · by_cases h1 : k < n
    · obtain ⟨j, rfl⟩ : ∃ j : Nat, k = j := ⟨k.toNat, by omega⟩
      have hj : j < n := by omega
      obtain ⟨b, off, rfl, hbl, hc⟩ := T0.out.at' (by omega)
      have q1 := hc j hj
      obtain ⟨t, ht⟩ : ∃ t, at_ ts j = t := ⟨_, rfl⟩
      rw [ht] at q1
      have HT := hid ht
      clear hc ht
      by_cases hz : t.size = 0
      · have e1 := (ba_empty hz).1
        have e2 := (ba_empty hz).2
        have HN := hid (show ¬ Vc.Is ts j from fun h => h.2.2 (by rw [Int.toNat_natCast, HT.out]; exact hz))
        clear hz
        go_enter Try.func37, Try.ntmps37
        go_wp2_with fail
        go_ret
        exact ⟨Says.no HN.out, rfl⟩
      · have e1 := (ba_full hz).1
        have e2 := (ba_full hz).2
        have HN := hid (show Vc.Is ts j from ⟨by omega, by omega, by rw [Int.toNat_natCast, HT.out]; exact hz⟩)
        clear hz
        go_enter Try.func37, Try.ntmps37
        go_wp2_with fail
        go_ret
        exact ⟨Says.yes HN.out, rfl⟩
    · have d1 : decide (k < (n : Int)) = false := decide_eq_false h1
      have HN := hid (show ¬ Vc.Is ts k from fun h => by have := h.2.1; omega)
      go_enter Try.func37, Try.ntmps37
      go_wp2_with fail
      go_ret
      exact ⟨Says.no HN.out, rfl⟩
  · have d1 : decide ((0 : Int) ≤ k) = false := decide_eq_false h0
    have HN := hid (show ¬ Vc.Is ts k from fun h => by have := h.1; omega)
    go_enter Try.func37, Try.ntmps37
    go_wp2_with fail
    go_ret
    exact ⟨Says.no HN.out, rfl⟩

set_option maxHeartbeats 1600000 in
theorem rahead_calls (l1 r1 o1 d1 l2 r2 o2 d2 : Int) (w : World) :
    Calls Try.prog 38 #[.agg #[.int .i64 l1, .int .i64 r1, .int .i64 o1, .int .i64 d1], .agg #[.int .i64 l2, .int .i64 r2, .int .i64 o2, .int .i64 d2]] w fun e w' => Says e (Vc.Ahead (l1, r1, o1, d1) (l2, r2, o2, d2)) ∧ Below w.heap.size w w' := by
  have B0 := hid (((Below.refl w.heap.size w).alloc (Nat.le_refl _) (.cells #[.int .i64 l1, .int .i64 r1, .int .i64 o1, .int .i64 d1] 34)).alloc (by simp) (.cells #[.int .i64 l2, .int .i64 r2, .int .i64 o2, .int .i64 d2] 34))
  have HI := hid (show Vc.Ahead (l1, r1, o1, d1) (l2, r2, o2, d2) ↔ (d1 < d2 ∨ (d1 = d2 ∧ (l1 < l2 ∨ (l1 = l2 ∧ r1 < r2)))) from Iff.rfl)
  by_cases h1 : d1 = d2
  · subst h1
    by_cases h2 : l1 = l2
    · subst h2
      by_cases h3 : r1 < r2
      · have HN := hid (HI.out.2 (.inr ⟨rfl, .inr ⟨rfl, h3⟩⟩))
        go_enter Try.func38, Try.ntmps38
        go_wp2_with fail
        go_ret
        exact ⟨Says.yes HN.out, B0.out⟩
      · have q : decide (r1 < r2) = false := decide_eq_false h3
        have HN := hid (show ¬ Vc.Ahead (l1, r1, o1, d1) (l1, r2, o2, d1) from fun h => by have := HI.out.1 h; omega)
        go_enter Try.func38, Try.ntmps38
        go_wp2_with fail
        go_ret
        exact ⟨Says.no HN.out, B0.out⟩
    · have q2 : (l1 == l2) = false := by simpa using h2
      by_cases h3 : l1 < l2
      · have HN := hid (HI.out.2 (.inr ⟨rfl, .inl h3⟩))
        go_enter Try.func38, Try.ntmps38
        go_wp2_with fail
        go_ret
        exact ⟨Says.yes HN.out, B0.out⟩
      · have q : decide (l1 < l2) = false := decide_eq_false h3
        have HN := hid (show ¬ Vc.Ahead (l1, r1, o1, d1) (l2, r2, o2, d1) from fun h => by have := HI.out.1 h; omega)
        go_enter Try.func38, Try.ntmps38
        go_wp2_with fail
        go_ret
        exact ⟨Says.no HN.out, B0.out⟩
  · have q2 : (d1 == d2) = false := by simpa using h1
    by_cases h3 : d1 < d2
    · have HN := hid (HI.out.2 (.inl h3))
      go_enter Try.func38, Try.ntmps38
      go_wp2_with fail
      go_ret
      exact ⟨Says.yes HN.out, B0.out⟩
    · have q : decide (d1 < d2) = false := decide_eq_false h3
      have HN := hid (show ¬ Vc.Ahead (l1, r1, o1, d1) (l2, r2, o2, d2) from fun h => by have := HI.out.1 h; omega)
      go_enter Try.func38, Try.ntmps38
      go_wp2_with fail
      go_ret
      exact ⟨Says.no HN.out, B0.out⟩

/-- How a sign may be, or not. -/
theorem sign_ways (k : Int) : (Vc.SignOk k ∧ ((97 ≤ k ∧ k ≤ 122) ∨ (¬ 97 ≤ k ∧ 48 ≤ k ∧ k ≤ 57) ∨ k = 95)) ∨ (¬ Vc.SignOk k ∧ k ≠ 95 ∧ ((97 ≤ k ∧ ¬ k ≤ 122 ∧ 48 ≤ k ∧ ¬ k ≤ 57) ∨ (¬ 97 ≤ k ∧ 48 ≤ k ∧ ¬ k ≤ 57) ∨ (¬ 97 ≤ k ∧ ¬ 48 ≤ k))) := by
  unfold Vc.SignOk; omega

set_option maxHeartbeats 3200000 in
theorem rmayName_calls (s : ByteArray) (w : World) (hs : s.size ≤ 1000000) : Calls Try.prog 39 #[.string s] w fun e w' => Says e (Vc.NameOk s) ∧ w' = w := by
  obtain ⟨hsz, hget, hbd⟩ := St.any s
  obtain ⟨n, hn⟩ : ∃ n, s.size = n := ⟨_, rfl⟩
  obtain ⟨f, hf⟩ : ∃ f, bytesF s = f := ⟨_, rfl⟩
  have HK := hid (show Vc.NameOk s ↔ (1 ≤ n ∧ n ≤ 24 ∧ ∀ i, i < n → Vc.SignOk (f i)) by unfold Vc.NameOk; rw [hn, hf])
  rw [hf] at hget
  rw [hn] at hs
  clear hbd hf hsz
  go_enter Try.func39, Try.ntmps39
  go_wp2_with fail
  go_loopg [3] n (fun r iv wr => ∃ j : Nat, r = n - j ∧ j ≤ n ∧ iv = .int .i64 j ∧ Hid (∀ i, i < j → Vc.SignOk (f i)) ∧ w = wr)
  case atStart => exact ⟨0, rfl, by omega, rfl, hid (fun i hi => by omega), rfl⟩
  case round =>
    obtain ⟨j, rfl, hj, rfl, HA, rfl⟩ := hrel
    by_cases hlt : j < n
    · have l0 : (0 : Int) ≤ j := by omega
      have l1 : (j : Int) < n := by omega
      have l2 : IntKind.i64.wrap ((j : Int) + 1) = j + 1 := i64_in (by omega) (by omega)
      rcases sign_ways (f j) with ⟨hok, hw⟩ | ⟨hok, hne, hw⟩
      · have HY := hid hok
        have HR := hid (show ∀ i, i < j + 1 → Vc.SignOk (f i) from fun i hi => by
          by_cases h : i < j
          · exact HA.out i h
          · obtain rfl : i = j := by omega
            exact hok)
        clear hok HY
        rcases hw with ⟨a1, a2⟩ | ⟨a1, a2, a3⟩ | a1
        · go_wp2_with fail
          go_roundg (n - (j + 1))
          case measure => omega
          case rel => exact ⟨j + 1, rfl, by omega, by go_num, HR, rfl⟩
        · have d1 : decide ((97 : Int) ≤ f j) = false := decide_eq_false a1
          go_wp2_with fail
          go_roundg (n - (j + 1))
          case measure => omega
          case rel => exact ⟨j + 1, rfl, by omega, by go_num, HR, rfl⟩
        · go_wp2_with fail
          go_roundg (n - (j + 1))
          case measure => omega
          case rel => exact ⟨j + 1, rfl, by omega, by go_num, HR, rfl⟩
      · have HN := hid (show ¬ Vc.NameOk s from fun h => hok ((HK.out.1 h).2.2 j hlt))
        have d5 : (f j == 95) = false := by simpa using hne
        clear hok
        rcases hw with ⟨a1, a2, a3, a4⟩ | ⟨a1, a2, a3⟩ | ⟨a1, a2⟩
        · have d2 : decide (f j ≤ (122 : Int)) = false := decide_eq_false a2
          have d3 : decide (f j ≤ (57 : Int)) = false := decide_eq_false a4
          go_wp2_with fail
          go_ret
          exact ⟨Says.no HN.out, rfl⟩
        · have d2 : decide ((97 : Int) ≤ f j) = false := decide_eq_false a1
          have d3 : decide (f j ≤ (57 : Int)) = false := decide_eq_false a3
          go_wp2_with fail
          go_ret
          exact ⟨Says.no HN.out, rfl⟩
        · have d2 : decide ((97 : Int) ≤ f j) = false := decide_eq_false a1
          have d3 : decide ((48 : Int) ≤ f j) = false := decide_eq_false a2
          go_wp2_with fail
          go_ret
          exact ⟨Says.no HN.out, rfl⟩
    · have l1 : ¬ (j : Int) < n := by omega
      by_cases h1 : (1 : Int) ≤ n
      · by_cases h24 : (n : Int) ≤ 24
        · have HN := hid (show Vc.NameOk s from HK.out.2 ⟨by omega, by omega, fun i hi => HA.out i (by omega)⟩)
          go_wp2_with fail
          go_ret
          exact ⟨Says.yes HN.out, rfl⟩
        · have d1 : decide ((n : Int) ≤ 24) = false := decide_eq_false h24
          have HN := hid (show ¬ Vc.NameOk s from fun h => by have := (HK.out.1 h).2.1; omega)
          go_wp2_with fail
          go_ret
          exact ⟨Says.no HN.out, rfl⟩
      · have d1 : decide ((1 : Int) ≤ n) = false := decide_eq_false h1
        have HN := hid (show ¬ Vc.NameOk s from fun h => by have := (HK.out.1 h).1; omega)
        go_wp2_with fail
        go_ret
        exact ⟨Says.no HN.out, rfl⟩

/-- No more than is gone through. -/
structure Vc.Small (ts : Vc.Toks) (ms : List Mg4) (sp : Vc.Sps) : Prop where
  t : ts.length ≤ 400
  m : ms.length ≤ 300
  s : sp.length ≤ 20
  tz : ∀ i, i < ts.length → (at_ ts i).size ≤ 80
  sz : ∀ i, i < sp.length → (tat sp i).size ≤ 40

set_option maxRecDepth 100000 in
set_option maxHeartbeats 3200000 in
theorem rgreat_calls {w : World} {a am az : Option Addr} {n c nm cm ns cs : Nat} {ts : Vc.Toks} {ms : List Mg4} {sp : Vc.Sps} (V : Vo w a n c am nm cm az ns cs ts ms sp) :
    Calls Try.prog 8 #[.agg #[.slice a n c, .slice am nm cm, .slice az ns cs]] w fun e w' => Says e (¬ Vc.Small ts ms sp) ∧ Below w.heap.size w w' := by
  have hl := V.T.len
  have hlm := V.M.len
  have hls := V.S.len
  have B0 := hid ((Below.refl w.heap.size w).alloc (Nat.le_refl _) (.cells #[.slice a n c, .slice am nm cm, .slice az ns cs] 26))
  have X0 := hid (Bx3.new w 26 (.slice a n c) (.slice am nm cm) (.slice az ns cs))
  have V0 := hid (V.below B0.out)
  clear V
  have x0 := X0.out.cell0
  have x1 := X0.out.cell1
  have x2 := X0.out.cell2
  by_cases g1 : (400 : Int) < n
  · have HN := hid (show ¬ Vc.Small ts ms sp from fun h => by have := h.t; omega)
    go_enter Try.func8, Try.ntmps8
    go_wp2_with fail
    go_ret
    exact ⟨Says.yes HN.out, B0.out⟩
  have d1 : decide ((400 : Int) < n) = false := decide_eq_false g1
  by_cases g2 : (300 : Int) < nm
  · have HN := hid (show ¬ Vc.Small ts ms sp from fun h => by have := h.m; omega)
    go_enter Try.func8, Try.ntmps8
    go_wp2_with fail
    go_ret
    exact ⟨Says.yes HN.out, B0.out⟩
  have d2 : decide ((300 : Int) < nm) = false := decide_eq_false g2
  by_cases g3 : (20 : Int) < ns
  · have HN := hid (show ¬ Vc.Small ts ms sp from fun h => by have := h.s; omega)
    go_enter Try.func8, Try.ntmps8
    go_wp2_with fail
    go_ret
    exact ⟨Says.yes HN.out, B0.out⟩
  have d3 : decide ((20 : Int) < ns) = false := decide_eq_false g3
  obtain ⟨W, hW⟩ : ∃ W, w.alloc (.cells #[.slice a n c, .slice am nm cm, .slice az ns cs] 26) = W := ⟨_, rfl⟩
  rw [hW] at x0 x1 x2 V0 B0
  go_enter Try.func8, Try.ntmps8
  go_wp2_with fail
  try rw [hW]
  clear hW X0
  go_loopg [24] n (fun r iv wr => ∃ j : Nat, r = n - j ∧ j ≤ n ∧ iv = .int .i64 j ∧ Hid (∀ i, i < j → (at_ ts i).size ≤ 80) ∧ W = wr)
  case atStart => exact ⟨0, rfl, by omega, rfl, hid (fun i hi => by omega), rfl⟩
  case round =>
    obtain ⟨j, rfl, hj, rfl, HA, rfl⟩ := hrel
    by_cases hlt : j < n
    · have l0 : (0 : Int) ≤ j := by omega
      have l1 : (j : Int) < n := by omega
      have l2 : IntKind.i64.wrap ((j : Int) + 1) = j + 1 := i64_in (by omega) (by omega)
      obtain ⟨b, off, rfl, hbl, hc⟩ := V0.out.T.at' (by omega)
      have q1 := hc j hlt
      obtain ⟨t, ht⟩ : ∃ t, at_ ts j = t := ⟨_, rfl⟩
      rw [ht] at q1
      have HT := hid ht
      clear hc ht
      by_cases hs : (80 : Int) < t.size
      · have HN := hid (show ¬ Vc.Small ts ms sp from fun h => by have := h.tz j (by omega); rw [HT.out] at this; omega)
        go_wp2_with fail
        go_ret
        exact ⟨Says.yes HN.out, B0.out⟩
      · have d4 : decide ((80 : Int) < t.size) = false := decide_eq_false hs
        go_wp2_with fail
        go_roundg (n - (j + 1))
        case measure => omega
        case rel => exact ⟨j + 1, rfl, by omega, by go_num, hid (fun i hi => by
          by_cases h : i < j
          · exact HA.out i h
          · obtain rfl : i = j := by omega
            rw [HT.out]; omega), rfl⟩
    · have l1 : ¬ (j : Int) < n := by omega
      go_wp2_with fail
      go_loopg [38] ns (fun r iv wr => ∃ k : Nat, r = ns - k ∧ k ≤ ns ∧ iv = .int .i64 k ∧ Hid (∀ i, i < k → (tat sp i).size ≤ 40) ∧ W = wr)
      case atStart => exact ⟨0, rfl, by omega, rfl, hid (fun i hi => by omega), rfl⟩
      case round =>
        obtain ⟨k, rfl, hk, rfl, HC, rfl⟩ := hrel
        by_cases hlt : k < ns
        · have l0 : (0 : Int) ≤ k := by omega
          have l1 : (k : Int) < ns := by omega
          have l2 : IntKind.i64.wrap ((k : Int) + 1) = k + 1 := i64_in (by omega) (by omega)
          obtain ⟨b, off, rfl, hbl, hc⟩ := V0.out.S.at' (by omega)
          have q1 := (hc k hlt).1
          obtain ⟨t, ht⟩ : ∃ t, tat sp k = t := ⟨_, rfl⟩
          rw [ht] at q1
          have HT := hid ht
          clear hc ht
          by_cases hs : (40 : Int) < t.size
          · have HN := hid (show ¬ Vc.Small ts ms sp from fun h => by have := h.sz k (by omega); rw [HT.out] at this; omega)
            go_wp2_with fail
            go_ret
            exact ⟨Says.yes HN.out, B0.out⟩
          · have d4 : decide ((40 : Int) < t.size) = false := decide_eq_false hs
            go_wp2_with fail
            go_roundg (ns - (k + 1))
            case measure => omega
            case rel => exact ⟨k + 1, rfl, by omega, by go_num, hid (fun i hi => by
              by_cases h : i < k
              · exact HC.out i h
              · obtain rfl : i = k := by omega
                rw [HT.out]; omega), rfl⟩
        · have l1 : ¬ (k : Int) < ns := by omega
          have HN := hid (show ¬ ¬ Vc.Small ts ms sp from fun h => h ⟨by omega, by omega, by omega, fun i hi => HA.out i (by omega), fun i hi => HC.out i (by omega)⟩)
          go_wp2_with fail
          go_ret
          exact ⟨Says.no HN.out, B0.out⟩
end Go.Proofs.Ytfgbpjajkmfkoaa
