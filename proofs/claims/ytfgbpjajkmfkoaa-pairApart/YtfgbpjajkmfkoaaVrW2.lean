/-
  Walks of the reference's mayTokens, mayMade, mayMerges, maySpecials, May.
-/
import Derived.Test.YtfgbpjajkmfkoaaVrW1
import Derived.Test.YtfgbpjajkmfkoaaVcW8
import Derived.Test.YtfgbpjajkmfkoaaVcW10
namespace Go.Proofs.Ytfgbpjajkmfkoaa
open Go.RowKit Go.Maps
set_option linter.unusedVariables false

set_option maxRecDepth 100000 in
set_option maxHeartbeats 3200000 in
theorem rmayTokens_calls {w : World} {a : Option Addr} {n c : Nat} {ts : Vc.Toks} (V : Ts w a n c ts) :
    Calls Try.prog 25 #[.slice a n c] w fun e w' => Says e (Vc.MayT ts) ∧ Below w.heap.size w w' := by
  have hl := V.len
  have TW := hid V
  clear V
  by_cases h0 : (4096 : Int) < n
  · have HN := hid (show ¬ Vc.MayT ts from fun h => by have := h.len; omega)
    go_enter Try.func25, Try.ntmps25
    go_wp2_with fail
    go_ret
    exact ⟨Says.no HN.out, Below.refl _ _⟩
  have hn : n ≤ 4096 := by omega
  go_enter Try.func25, Try.ntmps25
  go_wp2_with fail
  go_loopg [10] n (fun r iv wr => ∃ j : Nat, r = n - j ∧ iv = .int .i64 (j : Int) ∧ j ≤ n ∧ Hid (∀ i, i < j → (at_ ts i).size ≤ 64 ∧ ((at_ ts i).size ≠ 0 → ∀ k, k < i → at_ ts k ≠ at_ ts i)) ∧ w = wr)
  case atStart => exact ⟨0, rfl, rfl, by omega, hid (fun i hi => by omega), rfl⟩
  case round =>
    obtain ⟨j, rfl, rfl, hj, HA, rfl⟩ := hrel
    by_cases hlt : j < n
    · have i1 : (j : Int) < n := by omega
      have i0' : (0 : Int) ≤ j := by omega
      have e2 : IntKind.i64.wrap ((j : Int) + 1) = j + 1 := i64_in (by omega) (by omega)
      obtain ⟨b, off, rfl, hbl, hc⟩ := TW.out.at' (by omega)
      have q1 := hc j hlt
      obtain ⟨t, ht⟩ : ∃ t, at_ ts j = t := ⟨_, rfl⟩
      rw [ht] at q1
      have HT := hid ht
      clear hc ht
      by_cases h64 : (64 : Int) < t.size
      · have HX := hid (show ¬ Vc.MayT ts from fun h => by have := h.sz j (by omega); rw [HT.out] at this; omega)
        go_wp2_with fail
        go_ret
        exact ⟨Says.no HX.out, Below.refl _ _⟩
      have d64 : decide ((64 : Int) < t.size) = false := decide_eq_false h64
      by_cases hz : t.size = 0
      · have e1 := (ba_empty hz).1
        have e3 := (ba_empty hz).2
        have HS := hid hz
        clear hz
        go_wp2_with fail
        go_roundg (n - (j + 1))
        case measure => omega
        case rel => exact ⟨j + 1, rfl, by go_num, by omega, hid (fun i hi => by
          by_cases h : i < j
          · exact HA.out i h
          · obtain rfl : i = j := by omega
            rw [HT.out]
            exact ⟨by rw [HS.out]; omega, fun h => absurd HS.out h⟩), rfl⟩
      · have e1 := (ba_full hz).1
        have e3 := (ba_full hz).2
        have HS := hid hz
        clear hz
        go_wp2_with fail
        refine (rof_calls TW.out t).mono ?_
        rintro e w2 ⟨⟨r, rfl, hr⟩, rfl⟩
        have hk : ∃ k : Nat, r = k ∧ k ≤ j ∧ at_ ts k = t ∧ ∀ i, i < k → at_ ts i ≠ t := by
          rcases hr with ⟨h, _⟩ | ⟨_, ⟨k, rfl, hk, he, hf⟩ | ⟨_, h⟩⟩
          · exact absurd h HS.out
          · refine ⟨k, rfl, ?_, he, hf⟩
            by_cases hkj : k ≤ j
            · exact hkj
            · exact absurd HT.out (hf j (by omega))
          · exact absurd HT.out (h j (by omega))
        obtain ⟨k, rfl, hkj, hke, hkf⟩ := hk
        have HE := hid hke
        have HF := hid hkf
        clear hr hke hkf
        by_cases hkj2 : k = j
        · subst hkj2
          go_wp2_with fail
          go_roundg (n - (k + 1))
          case measure => omega
          case rel => exact ⟨k + 1, rfl, by go_num, by omega, hid (fun i hi => by
            by_cases h : i < k
            · exact HA.out i h
            · obtain rfl : i = k := by omega
              rw [HT.out]
              exact ⟨by omega, fun _ => HF.out⟩), rfl⟩
        · have HX := hid (show ¬ Vc.MayT ts from fun h => hkj2 (h.apart k j (by omega) (by omega) (by rw [HE.out]; exact HS.out) (by rw [HE.out, HT.out])))
          have d5 : ((k : Int) == (j : Int)) = false := by simp; omega
          have d6 : ¬ (k : Int) = j := by omega
          go_wp2_with fail
          go_ret
          exact ⟨Says.no HX.out, Below.refl _ _⟩
    · obtain rfl : j = n := by omega
      have k1 : ¬ ((j : Int) < j) := by omega
      go_wp2_with fail
      go_loopg [4] 256 (fun r iv wr => ∃ b : Nat, r = 256 - b ∧ iv = .int .i64 (b : Int) ∧ b ≤ 256 ∧ Hid (∀ i, i < b → ∃ k, k < j ∧ at_ ts k = Vc.one i) ∧ Hid (Below w.heap.size w wr))
      case atStart => exact ⟨0, rfl, rfl, by omega, hid (fun i hi => by omega), hid (Below.refl _ _)⟩
      case round =>
        obtain ⟨b, rfl, rfl, hb, HC, HB⟩ := hrel
        by_cases hlt : b < 256
        · have i1 : (b : Int) < 256 := by omega
          have i0' : (0 : Int) ≤ b := by omega
          have e2 : IntKind.i64.wrap ((b : Int) + 1) = b + 1 := i64_in (by omega) (by omega)
          have e3 : IntKind.u8.wrap (b : Int) = b := u8_in' (by omega) (by omega)
          have cv := cv_one wr b
          obtain ⟨S, hS⟩ : ∃ S, Vc.one b = S := ⟨_, rfl⟩
          rw [hS] at cv
          have HSS := hid hS
          clear hS
          have B2 := hid (HB.out.alloc HB.out.size (.cells #[.int .u8 (b : Int)] 5))
          go_wp2_with fail
          refine (rof_calls (TW.out.below B2.out) S).mono ?_
          rintro e w2 ⟨⟨r, rfl, hr⟩, rfl⟩
          have hS1 : S.size ≠ 0 := by rw [← HSS.out, one_size]; decide
          rcases hr with ⟨h, _⟩ | ⟨_, ⟨k, rfl, hk, he, _⟩ | ⟨rfl, h⟩⟩
          · exact absurd h hS1
          · have HE := hid he
            have l3 : ¬ (k : Int) < 0 := by omega
            clear he hS1
            go_wp2_with fail
            go_roundg (256 - (b + 1))
            case measure => omega
            case rel => exact ⟨b + 1, rfl, by go_num, by omega, hid (fun i hi => by
              by_cases h : i < b
              · exact HC.out i h
              · obtain rfl : i = b := by omega
                exact ⟨k, by omega, by rw [HE.out, HSS.out]⟩), B2⟩
          · have HX := hid (show ¬ Vc.MayT ts from fun hm => by
              obtain ⟨i, hi, he⟩ := hm.all b hlt
              exact h i hi (by rw [he, HSS.out]))
            clear h hS1
            go_wp2_with fail
            go_ret
            exact ⟨Says.no HX.out, B2.out⟩
        · obtain rfl : b = 256 := by omega
          have k2 : ¬ ((256 : Nat) : Int) < 256 := by omega
          have HX := hid (show Vc.MayT ts from ⟨by omega, fun i hi => (HA.out i (by omega)).1, fun i k hi hk hz he => by
            rcases Nat.lt_trichotomy i k with h | h | h
            · exact absurd he ((HA.out k (by omega)).2 (by rw [← he]; exact hz) i h)
            · exact h
            · exact absurd he.symm ((HA.out i (by omega)).2 hz k h), fun b hb => by
            obtain ⟨k, hk, he⟩ := HC.out b hb
            exact ⟨k, by omega, he⟩⟩)
          go_wp2_with fail
          go_ret
          exact ⟨Says.yes HX.out, HB.out⟩

set_option maxRecDepth 100000 in
set_option maxHeartbeats 3200000 in
theorem rmayMade_calls {w : World} {a am az : Option Addr} {n c nm cm ns cs : Nat} {ts : Vc.Toks} {ms : List Mg4} (V : Ts w a n c ts) (M : Qw w am nm cm ms) (hn : n ≤ 4096) (hm : nm ≤ 16384) :
    Calls Try.prog 27 #[.agg #[.slice a n c, .slice am nm cm, .slice az ns cs]] w fun e w' => Says e (Vc.Made ts ms) ∧ Below w.heap.size w w' := by
  have hl := V.len
  have hlm := M.len
  have B0 := hid ((Below.refl w.heap.size w).alloc (Nat.le_refl _) (.cells #[.slice a n c, .slice am nm cm, .slice az ns cs] 26))
  have X0 := hid (Bx3.new w 26 (.slice a n c) (.slice am nm cm) (.slice az ns cs))
  have T0 := hid (V.below B0.out)
  have M0 := hid (M.below B0.out)
  clear V M
  have x0 := X0.out.cell0
  have x1 := X0.out.cell1
  obtain ⟨W, hW⟩ : ∃ W, w.alloc (.cells #[.slice a n c, .slice am nm cm, .slice az ns cs] 26) = W := ⟨_, rfl⟩
  rw [hW] at x0 x1 T0 M0 B0
  go_enter Try.func27, Try.ntmps27
  go_wp2_with fail
  try rw [hW]
  clear hW X0
  go_loopg [9] n (fun r iv wr => ∃ j : Nat, r = n - j ∧ j ≤ n ∧ iv = .int .i64 j ∧ Hid (∀ k, k < j → (at_ ts k).size < 2 ∨ ∃ u, u < ms.length ∧ (mat ms u).2.2.1 = (k : Int)) ∧ W = wr)
  case atStart => exact ⟨0, rfl, by omega, rfl, hid (fun i hi => by omega), rfl⟩
  case round =>
    obtain ⟨j, rfl, hj, rfl, HA, rfl⟩ := hrel
    by_cases hlt : j < n
    · have l0 : (0 : Int) ≤ j := by omega
      have l1 : (j : Int) < n := by omega
      have l2 : IntKind.i64.wrap ((j : Int) + 1) = j + 1 := i64_in (by omega) (by omega)
      obtain ⟨b, off, rfl, hbl, hc⟩ := T0.out.at' (by omega)
      have q1 := hc j hlt
      obtain ⟨t, ht⟩ : ∃ t, at_ ts j = t := ⟨_, rfl⟩
      rw [ht] at q1
      have HT := hid ht
      clear hc ht
      obtain ⟨g0, hg0⟩ : ∃ g : Bool, decide ((t.size : Int) < 2) = g := ⟨_, rfl⟩
      have HG := hid (show g0 = true ↔ t.size < 2 by rw [← hg0, decide_eq_true_eq]; omega)
      go_wp2_with fail
      go_loopg [4, 22] nm (fun r gv iv wr => ∃ (k : Nat) (g : Bool), r = nm - k ∧ gv = .bool g ∧ iv = .int .i64 k ∧ k ≤ nm ∧ Hid (g = true ↔ (t.size < 2 ∨ ∃ u, u < k ∧ (mat ms u).2.2.1 = (j : Int))) ∧ W = wr)
      case atStart => exact ⟨0, g0, rfl, by first | rfl | (rw [hg0]), rfl, by omega, hid ⟨fun h => .inl (HG.out.1 h), fun h => by rcases h with h | ⟨u, hu, _⟩; exact HG.out.2 h; omega⟩, rfl⟩
      case round =>
        obtain ⟨k, g, rfl, rfl, rfl, hk, HI, rfl⟩ := hrel
        by_cases hlt2 : k < nm
        · have m0 : (0 : Int) ≤ k := by omega
          have m1 : (k : Int) < nm := by omega
          have m2 : IntKind.i64.wrap ((k : Int) + 1) = k + 1 := i64_in (by omega) (by omega)
          obtain ⟨b2, off2, rfl, hbl2, hc⟩ := M0.out.at' (by omega)
          obtain ⟨p0, p1, p2, p3⟩ := hc k hlt2
          obtain ⟨o, ho⟩ : ∃ o, (mat ms k).2.2.1 = o := ⟨_, rfl⟩
          rw [ho] at p2
          have HOo := hid ho
          clear hc ho p0 p1 p3
          cases g
          · by_cases he : o = (j : Int)
            · subst he
              go_wp2_with fail
              go_roundg (nm - (k + 1))
              case measure => omega
              case rel => exact ⟨k + 1, true, rfl, rfl, by go_num, by omega, hid ⟨fun _ => .inr ⟨k, by omega, HOo.out⟩, fun _ => rfl⟩, rfl⟩
            · have d5 : (o == (j : Int)) = false := by simpa using he
              go_wp2_with fail
              go_roundg (nm - (k + 1))
              case measure => omega
              case rel => exact ⟨k + 1, false, rfl, rfl, by go_num, by omega, hid ⟨(fun h => by cases h), fun h => HI.out.2 (by
                rcases h with h | ⟨u, hu, hue⟩
                · exact .inl h
                · by_cases huk : u < k
                  · exact .inr ⟨u, huk, hue⟩
                  · obtain rfl : u = k := by omega
                    rw [HOo.out] at hue; exact absurd hue he)⟩, rfl⟩
          · go_wp2_with fail
            go_roundg (nm - (k + 1))
            case measure => omega
            case rel => exact ⟨k + 1, true, rfl, rfl, by go_num, by omega, hid ⟨fun _ => by
              rcases HI.out.1 (by first | rfl | trivial) with h | ⟨u, hu, hue⟩
              · exact .inl h
              · exact .inr ⟨u, by omega, hue⟩, fun _ => rfl⟩, rfl⟩
        · obtain rfl : k = nm := by omega
          have m1 : ¬ (k : Int) < k := by omega
          cases g
          · have HN := hid (show ¬ Vc.Made ts ms from fun h => by
              have := h j (by omega)
              rw [HT.out] at this
              exact absurd (HI.out.2 (by
                rcases this with h | ⟨u, hu, hue⟩
                · exact .inl h
                · exact .inr ⟨u, by omega, hue⟩)) (by decide))
            go_wp2_with fail
            go_ret
            exact ⟨Says.no HN.out, B0.out⟩
          · go_wp2_with fail
            go_roundg (n - (j + 1))
            case measure => omega
            case rel => exact ⟨j + 1, rfl, by omega, by go_num, hid (fun i hi => by
              by_cases h : i < j
              · exact HA.out i h
              · obtain rfl : i = j := by omega
                rw [HT.out]
                rcases HI.out.1 (by first | rfl | trivial) with h | ⟨u, hu, hue⟩
                · exact .inl h
                · exact .inr ⟨u, by omega, hue⟩), rfl⟩
    · have l1 : ¬ (j : Int) < n := by omega
      have HN := hid (show Vc.Made ts ms from fun k hk => HA.out k (by omega))
      go_wp2_with fail
      go_ret
      exact ⟨Says.yes HN.out, B0.out⟩

set_option maxRecDepth 100000 in
set_option maxHeartbeats 6400000 in
theorem rmayMerges_calls {w : World} {a am az : Option Addr} {n c nm cm ns cs : Nat} {ts : Vc.Toks} {ms : List Mg4} (V : Ts w a n c ts) (M : Qw w am nm cm ms) (hz : ∀ i, i < n → (at_ ts i).size ≤ 64) :
    Calls Try.prog 26 #[.agg #[.slice a n c, .slice am nm cm, .slice az ns cs]] w fun e w' => Says e (Vc.MayM ts ms) ∧ Below w.heap.size w w' := by
  have hl := V.len
  have hlm := M.len
  have B0 := hid ((Below.refl w.heap.size w).alloc (Nat.le_refl _) (.cells #[.slice a n c, .slice am nm cm, .slice az ns cs] 26))
  have X0 := hid (Bx3.new w 26 (.slice a n c) (.slice am nm cm) (.slice az ns cs))
  have TW := hid V
  have MW := hid M
  have HZ := hid hz
  clear V M hz
  by_cases h0 : (16384 : Int) < nm
  · have HN := hid (show ¬ Vc.MayM ts ms from fun h => by have := h.len; omega)
    go_enter Try.func26, Try.ntmps26
    go_wp2_with fail
    go_ret
    exact ⟨Says.no HN.out, B0.out⟩
  have hm : nm ≤ 16384 := by omega
  go_enter Try.func26, Try.ntmps26
  go_wp2_with fail
  go_loopg [14] nm (fun r iv wr => ∃ j : Nat, r = nm - j ∧ iv = .int .i64 (j : Int) ∧ j ≤ nm ∧ Hid (∀ i, i < j → Vc.OkM ts (mat ms i)) ∧ Hid (∀ i k, i < k → k < j → Vc.Both (mat ms i) (mat ms k)) ∧ Hid (Bx3 wr w.heap.size 26 (.slice a n c) (.slice am nm cm) (.slice az ns cs)) ∧ Hid (Below w.heap.size w wr))
  case atStart => exact ⟨0, rfl, rfl, by omega, hid (fun i hi => by omega), hid (fun i k _ hk => by omega), X0, B0⟩
  case round =>
    obtain ⟨j, rfl, rfl, hj, HA, HP, HX, HB⟩ := hrel
    by_cases hlt : j < nm
    · have k1 : (j : Int) < nm := by omega
      have k0 : (0 : Int) ≤ j := by omega
      have e2 : IntKind.i64.wrap ((j : Int) + 1) = j + 1 := i64_in (by omega) (by omega)
      have xx1 := HX.out.cell1
      obtain ⟨b, off, rfl, hbl, hc⟩ := (MW.out.below HB.out).at' (by omega)
      obtain ⟨p0, p1, p2, p3⟩ := hc j hlt
      obtain ⟨⟨x0, x1, x2, x3⟩, hx⟩ : ∃ x, mat ms j = x := ⟨_, rfl⟩
      rw [hx] at p0 p1 p2 p3
      have HQ := hid hx
      obtain ⟨K, hK⟩ : ∃ K, wr.heap.size = K := ⟨_, rfl⟩
      have X3 := hid (HX.out.alloc (.cells #[.int .i64 x0, .int .i64 x1, .int .i64 x2, .int .i64 x3] 34))
      have Y3 := hid (Bx4.new wr 34 (.int .i64 x0) (.int .i64 x1) (.int .i64 x2) (.int .i64 x3))
      have B3 := hid (HB.out.alloc HB.out.size (.cells #[.int .i64 x0, .int .i64 x1, .int .i64 x2, .int .i64 x3] 34))
      have hKs := X3.out.lt
      rw [hK] at Y3
      have hKw := HB.out.size
      rw [hK] at hKw
      have z0 := X3.out.cell0
      have z1 := X3.out.cell1
      have y0 := Y3.out.cell0
      have y1 := Y3.out.cell1
      have y2 := Y3.out.cell2
      have y3 := Y3.out.cell3
      have T3 := hid (TW.out.below B3.out)
      clear hc hx
      go_wp2_with fail
      refine (ris_calls T3.out x0).mono ?_
      rintro e w4 ⟨⟨t, rfl, ht⟩, rfl⟩
      have HO := hid ht
      clear ht
      cases t
      · have HN := hid (show ¬ Vc.MayM ts ms from fun h => by
          have := (h.ok j (by omega)).1
          rw [HQ.out] at this
          exact absurd (HO.out.2 this) (by decide))
        go_wp2_with fail
        go_ret
        exact ⟨Says.no HN.out, B3.out⟩
      have I0 := hid (HO.out.1 rfl)
      clear HO
      go_wp2_with fail
      refine (ris_calls T3.out x1).mono ?_
      rintro e w4 ⟨⟨t, rfl, ht⟩, rfl⟩
      have HO := hid ht
      clear ht
      cases t
      · have HN := hid (show ¬ Vc.MayM ts ms from fun h => by
          have := (h.ok j (by omega)).2.1
          rw [HQ.out] at this
          exact absurd (HO.out.2 this) (by decide))
        go_wp2_with fail
        go_ret
        exact ⟨Says.no HN.out, B3.out⟩
      have I1 := hid (HO.out.1 rfl)
      clear HO
      go_wp2_with fail
      refine (ris_calls T3.out x2).mono ?_
      rintro e w4 ⟨⟨t, rfl, ht⟩, rfl⟩
      have HO := hid ht
      clear ht
      cases t
      · have HN := hid (show ¬ Vc.MayM ts ms from fun h => by
          have := (h.ok j (by omega)).2.2.1
          rw [HQ.out] at this
          exact absurd (HO.out.2 this) (by decide))
        go_wp2_with fail
        go_ret
        exact ⟨Says.no HN.out, B3.out⟩
      have I2 := hid (HO.out.1 rfl)
      clear HO
      by_cases o0 : x3 < 0
      · have HN := hid (show ¬ Vc.MayM ts ms from fun h => by
          have := (h.ok j (by omega)).2.2.2.2.1
          rw [HQ.out] at this
          simp at this
          omega)
        go_wp2_with fail
        go_ret
        exact ⟨Says.no HN.out, B3.out⟩
      have do0 : decide (x3 < (0 : Int)) = false := decide_eq_false o0
      by_cases o1 : 1048576 < x3
      · have HN := hid (show ¬ Vc.MayM ts ms from fun h => by
          have := (h.ok j (by omega)).2.2.2.2.2
          rw [HQ.out] at this
          simp at this
          omega)
        go_wp2_with fail
        go_ret
        exact ⟨Says.no HN.out, B3.out⟩
      have do1 : decide ((1048576 : Int) < x3) = false := decide_eq_false o1
      obtain ⟨P0, hP0⟩ : ∃ q : Nat, x0 = q := ⟨x0.toNat, by have := I0.out.1; omega⟩
      obtain ⟨P1, hP1⟩ : ∃ q : Nat, x1 = q := ⟨x1.toNat, by have := I1.out.1; omega⟩
      obtain ⟨P2, hP2⟩ : ∃ q : Nat, x2 = q := ⟨x2.toNat, by have := I2.out.1; omega⟩
      subst hP0 hP1 hP2
      have b0 : P0 < n := by have := I0.out.2.1; omega
      have b1 : P1 < n := by have := I1.out.2.1; omega
      have b2 : P2 < n := by have := I2.out.2.1; omega
      have b0' : (P0 : Int) < n := by omega
      have b1' : (P1 : Int) < n := by omega
      have b2' : (P2 : Int) < n := by omega
      have c0' : (0 : Int) ≤ P0 := by omega
      have c1' : (0 : Int) ≤ P1 := by omega
      have c2' : (0 : Int) ≤ P2 := by omega
      obtain ⟨bt, offt, rfl, hblt, hct⟩ := T3.out.at' (by omega)
      have t0 := hct P0 b0
      have t1 := hct P1 b1
      have t2 := hct P2 b2
      have sz0 := HZ.out P0 b0
      have sz1 := HZ.out P1 b1
      obtain ⟨s0, hs0⟩ : ∃ s, at_ ts P0 = s := ⟨_, rfl⟩
      obtain ⟨s1, hs1⟩ : ∃ s, at_ ts P1 = s := ⟨_, rfl⟩
      obtain ⟨s2, hs2⟩ : ∃ s, at_ ts P2 = s := ⟨_, rfl⟩
      rw [hs0] at t0 sz0
      rw [hs1] at t1 sz1
      rw [hs2] at t2
      have G0 := hid hs0
      have G1 := hid hs1
      have G2 := hid hs2
      have hadd : ¬ 9223372036854775807 < s0.size + s1.size := by omega
      clear hs0 hs1 hs2 hct sz0 sz1
      by_cases hs : s2 = s0 ++ s1
      · have HOk := hid (show Vc.OkM ts ((P0 : Int), (P1 : Int), (P2 : Int), x3) from ⟨I0.out, I1.out, I2.out, by
          show at_ ts ((P2 : Int).toNat) = at_ ts ((P0 : Int).toNat) ++ at_ ts ((P1 : Int).toNat)
          rw [Int.toNat_natCast, Int.toNat_natCast, Int.toNat_natCast, G0.out, G1.out, G2.out, hs], (show (0 : Int) ≤ x3 by omega), (show x3 ≤ 1048576 by omega)⟩)
        have hb1 : (s2.toList == (s0 ++ s1).toList) = true := by rw [hs]; exact beq_self_eq_true _
        have hb2 : s2.toList = (s0 ++ s1).toList := by rw [hs]
        clear hs I0 I1 I2 G0 G1 G2
        go_wp2_with fail
        go_quiet (fail)
        go_wp2_with fail
        go_loopg [5] j (fun r iv wr2 => ∃ k : Nat, r = j - k ∧ iv = .int .i64 (k : Int) ∧ k ≤ j ∧ Hid (∀ i, i < k → Vc.Both (mat ms i) (mat ms j)) ∧ Hid (Bx3 wr2 w.heap.size 26 (.slice (some ⟨bt, offt, none⟩) n c) (.slice (some ⟨b, off, none⟩) nm cm) (.slice az ns cs)) ∧ Hid (Bx4 wr2 K 34 (.int .i64 (P0 : Int)) (.int .i64 (P1 : Int)) (.int .i64 (P2 : Int)) (.int .i64 x3)) ∧ Hid (Below w.heap.size w wr2))
        case atStart => exact ⟨0, rfl, rfl, by omega, hid (fun i hi => by omega), hid (X3.out.below (below_drewN (Below.refl _ _) nq) X3.out.lt), hid (Y3.out.below (below_drewN (Below.refl _ _) nq) Y3.out.lt), hid (below_drewN B3.out nq)⟩
        case round =>
          obtain ⟨k, rfl, rfl, hk, HC, HX2, HY2, HB2⟩ := hrel
          by_cases hlt2 : k < j
          · have m1 : (k : Int) < j := by omega
            have m0 : (0 : Int) ≤ k := by omega
            have m3 : (k : Int) < nm := by omega
            have m2 : IntKind.i64.wrap ((k : Int) + 1) = k + 1 := i64_in (by omega) (by omega)
            obtain ⟨bb, ob, heq, _, hc2⟩ := (MW.out.below HB2.out).at' (by omega)
            cases heq
            obtain ⟨p0, p1, p2, p3⟩ := hc2 k (by omega)
            obtain ⟨⟨v0, v1, v2, v3⟩, hv⟩ : ∃ x, mat ms k = x := ⟨_, rfl⟩
            rw [hv] at p0 p1 p2 p3
            have HV := hid hv
            clear hc2 hv
            have xx2 := HX2.out.cell1
            have X4 := hid (HX2.out.alloc (.cells #[.int .i64 v0, .int .i64 v1, .int .i64 v2, .int .i64 v3] 34))
            have Y4 := hid (HY2.out.alloc (.cells #[.int .i64 v0, .int .i64 v1, .int .i64 v2, .int .i64 v3] 34))
            have Z4 := hid (Bx4.new wr 34 (.int .i64 v0) (.int .i64 v1) (.int .i64 v2) (.int .i64 v3))
            have B4 := hid (HB2.out.alloc HB2.out.size (.cells #[.int .i64 v0, .int .i64 v1, .int .i64 v2, .int .i64 v3] 34))
            have y0 := Y4.out.cell0
            have y1 := Y4.out.cell1
            have y2 := Y4.out.cell2
            have y3 := Y4.out.cell3
            go_wp2_with fail
            refine (rahead_calls v0 v1 v2 v3 P0 P1 P2 x3 _).mono ?_
            rintro e w5 ⟨⟨t, rfl, ht⟩, b5⟩
            have HO := hid ht
            have X5 := hid (X4.out.below b5 X4.out.lt)
            have Y5 := hid (Y4.out.below b5 Y4.out.lt)
            have Z5 := hid (Z4.out.below b5 Z4.out.lt)
            have B5 := hid (B4.out.trans (b5.mono B4.out.size))
            clear ht b5 X4 Y4 Z4 B4 y0 y1 y2 y3
            cases t
            · have HN := hid (show ¬ Vc.MayM ts ms from fun h => by
                have := (h.both k j hlt2 (by omega)).1
                rw [HV.out, HQ.out] at this
                exact absurd (HO.out.2 this) (by decide))
              go_wp2_with fail
              go_ret
              exact ⟨Says.no HN.out, B5.out⟩
            have HAh := hid (HO.out.1 rfl)
            clear HO
            have y0 := Y5.out.cell0
            have y1 := Y5.out.cell1
            have y2 := Y5.out.cell2
            have y3 := Y5.out.cell3
            have z0 := Z5.out.cell0
            have z1 := Z5.out.cell1
            have z2 := Z5.out.cell2
            have z3 := Z5.out.cell3
            by_cases a1 : v0 = (P0 : Int) ∧ v1 = (P1 : Int)
            · have HN := hid (show ¬ Vc.MayM ts ms from fun h => by
                have := (h.both k j hlt2 (by omega)).2.1
                rw [HV.out, HQ.out] at this
                exact this a1)
              obtain ⟨rfl, rfl⟩ := a1
              go_wp2_with fail
              go_ret
              exact ⟨Says.no HN.out, B5.out⟩
            · have HNe := hid a1
              by_cases a2 : v3 = x3 ∧ v2 ≠ (P2 : Int)
              · have HN := hid (show ¬ Vc.MayM ts ms from fun h => by
                  have := (h.both k j hlt2 (by omega)).2.2
                  rw [HV.out, HQ.out] at this
                  exact a2.2 (this a2.1))
                obtain ⟨rfl, a3⟩ := a2
                have d3 : (v2 == (P2 : Int)) = false := by simpa using a3
                by_cases a4 : v0 = (P0 : Int)
                · have d1 : (v1 == (P1 : Int)) = false := by simpa using (fun e => a1 ⟨a4, e⟩)
                  subst a4
                  clear a1
                  go_wp2_with fail
                  go_ret
                  exact ⟨Says.no HN.out, B5.out⟩
                · have d1 : (v0 == (P0 : Int)) = false := by simpa using a4
                  clear a1
                  go_wp2_with fail
                  go_ret
                  exact ⟨Says.no HN.out, B5.out⟩
              · have HR := hid (show ∀ i, i < k + 1 → Vc.Both (mat ms i) (mat ms j) from fun i hi => by
                  by_cases h : i < k
                  · exact HC.out i h
                  · obtain rfl : i = k := by omega
                    rw [HV.out, HQ.out]
                    exact ⟨HAh.out, a1, fun e => by
                      by_cases h2 : v2 = (P2 : Int)
                      · exact h2
                      · exact absurd ⟨e, h2⟩ a2⟩)
                have g3 : (v3 == x3) = false ∨ (v3 = x3 ∧ v2 = (P2 : Int)) := by
                  by_cases h3 : v3 = x3
                  · right
                    refine ⟨h3, ?_⟩
                    by_cases h2 : v2 = (P2 : Int)
                    · exact h2
                    · exact absurd ⟨h3, h2⟩ a2
                  · left; simpa using h3
                have g0 : (v0 == (P0 : Int)) = false ∨ (v0 = (P0 : Int) ∧ (v1 == (P1 : Int)) = false) := by
                  by_cases h3 : v0 = (P0 : Int)
                  · right
                    exact ⟨h3, by simpa using (fun e => a1 ⟨h3, e⟩)⟩
                  · left; simpa using h3
                clear a1 a2 HNe
                rcases g0 with g0 | ⟨rfl, g0⟩
                · rcases g3 with g3 | ⟨rfl, rfl⟩
                  · go_wp2_with fail
                    go_roundg (j - (k + 1))
                    case measure => omega
                    case rel => exact ⟨k + 1, rfl, by go_num, by omega, HR, X5, Y5, B5⟩
                  · go_wp2_with fail
                    go_roundg (j - (k + 1))
                    case measure => omega
                    case rel => exact ⟨k + 1, rfl, by go_num, by omega, HR, X5, Y5, B5⟩
                · rcases g3 with g3 | ⟨rfl, rfl⟩
                  · go_wp2_with fail
                    go_roundg (j - (k + 1))
                    case measure => omega
                    case rel => exact ⟨k + 1, rfl, by go_num, by omega, HR, X5, Y5, B5⟩
                  · go_wp2_with fail
                    go_roundg (j - (k + 1))
                    case measure => omega
                    case rel => exact ⟨k + 1, rfl, by go_num, by omega, HR, X5, Y5, B5⟩
          · obtain rfl : k = j := by omega
            have m1 : ¬ (k : Int) < k := by omega
            go_wp2_with fail
            go_roundg (nm - (k + 1))
            case measure => omega
            case rel => exact ⟨k + 1, rfl, by go_num, by omega, hid (fun i hi => by
              by_cases h : i < k
              · exact HA.out i h
              · obtain rfl : i = k := by omega
                rw [HQ.out]; exact HOk.out), hid (fun i q hiq hq => by
              by_cases h : q < k
              · exact HP.out i q hiq h
              · obtain rfl : q = k := by omega
                exact HC.out i hiq), HX2, HB2⟩
      · have HN := hid (show ¬ Vc.MayM ts ms from fun h => by
          have := (h.ok j (by omega)).2.2.2.1
          rw [HQ.out] at this
          have this : at_ ts ((P2 : Int).toNat) = at_ ts ((P0 : Int).toNat) ++ at_ ts ((P1 : Int).toNat) := this
          rw [Int.toNat_natCast, Int.toNat_natCast, Int.toNat_natCast, G0.out, G1.out, G2.out] at this
          exact hs this)
        have hs' : ¬ s2.toList = (s0 ++ s1).toList := fun h => hs (ba_eq h)
        have hs2 : (s2.toList == (s0 ++ s1).toList) = false := beq_eq_false_iff_ne.mpr hs'
        clear I0 I1 I2 G0 G1 G2
        have BB := hid (fun d => below_drewN B3.out d)
        go_wp2_with fail
        go_quiet (fail)
        go_wp2_with fail
        go_ret
        exact ⟨Says.no HN.out, BB.out nq⟩
    · have k1 : ¬ ((j : Int) < nm) := by omega
      have HN := hid (show Vc.MayM ts ms from ⟨by omega, fun i hi => HA.out i (by omega), fun i k hik hk => HP.out i k hik (by omega)⟩)
      go_wp2_with fail
      go_ret
      exact ⟨Says.yes HN.out, HB.out⟩
end Go.Proofs.Ytfgbpjajkmfkoaa
