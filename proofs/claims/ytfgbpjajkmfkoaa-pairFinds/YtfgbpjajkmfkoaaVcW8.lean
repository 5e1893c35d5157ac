/-
  Walk of vocab.mayTokens.
-/
import Derived.Test.YtfgbpjajkmfkoaaVcKy
namespace Go.Proofs.Ytfgbpjajkmfkoaa
open Go.RowKit Go.Maps
set_option linter.unusedVariables false

theorem one_size (b : Nat) : (Vc.one b).size = 1 := rfl
theorem u8_in' {n : Int} (h0 : 0 ≤ n) (h1 : n ≤ 255) : IntKind.u8.wrap n = n := by
  rw [IntKind.wrap_u8]; omega
theorem cv_one (w : World) (j : Nat) : (convert 66 9 (.slice (some ⟨w.heap.size, 0, none⟩) 1 1)).run Try.prog (w.alloc (.cells #[.int .u8 (j : Int)] 5)) = .ok (.string (Vc.one j)) (w.alloc (.cells #[.int .u8 (j : Int)] 5)) := by
  have h := run_convert_new (P := Try.prog) w 66 5 9 Try.underlying66 Try.underlying5 Try.underlying9 [(j : Int)] 1 rfl 5
  have e : strOfNums [(j : Int)] = Vc.one j := by simp [strOfNums, Vc.one, mk]
  rw [e] at h
  exact h

set_option maxRecDepth 100000 in
set_option maxHeartbeats 3200000 in
theorem mayTokens_calls {w : World} {a : Option Addr} {n c : Nat} {ts : Vc.Toks} (V : Ts w a n c ts) (hz : ∀ i, i < n → (at_ ts i).size ≤ maxLen) :
    Calls Try.prog 32 #[.slice a n c] w fun e w' => Says e (Vc.MayT ts) ∧ Below w.heap.size w w' := by
  have hl := V.len
  have TW := hid V
  have HZ := hid hz
  clear V hz
  by_cases h0 : (4096 : Int) < n
  · have HN := hid (show ¬ Vc.MayT ts from fun h => by have := h.len; omega)
    go_enter Try.func32, Try.ntmps32
    go_wp2_with fail
    go_ret
    exact ⟨Says.no HN.out, Below.refl _ _⟩
  have hn : n ≤ 4096 := by omega
  go_enter Try.func32, Try.ntmps32
  go_wp2_with fail
  refine (numbersOf_calls TW.out hn HZ.out).mono ?_
  rintro e w1 ⟨rfl, hN, b1⟩
  have HN := hid hN
  have B1 := hid b1
  clear hN b1
  go_wp2_with fail
  go_loopg [16] n (fun r iv wr => ∃ j : Nat, r = n - j ∧ iv = .int .i64 (j : Int) ∧ j ≤ n ∧ Hid (∀ i, i < j → (at_ ts i).size ≤ 64 ∧ ((at_ ts i).size ≠ 0 → Vc.lastOf ts n (at_ ts i) = some i)) ∧ w1 = wr)
  case atStart => exact ⟨0, rfl, rfl, by omega, hid (fun i hi => by omega), rfl⟩
  case round =>
    obtain ⟨j, rfl, rfl, hj, HA, rfl⟩ := hrel
    by_cases hlt : j < n
    · have i1 : (j : Int) < n := by omega
      have i0' : (0 : Int) ≤ j := by omega
      have e2 : IntKind.i64.wrap ((j : Int) + 1) = j + 1 := i64_in (by omega) (by omega)
      obtain ⟨b, off, rfl, hbl, hc⟩ := (TW.out.below B1.out).at' (by omega)
      have q1 := hc j hlt
      have hzj := HZ.out j hlt
      obtain ⟨t, ht⟩ : ∃ t, at_ ts j = t := ⟨_, rfl⟩
      rw [ht] at q1 hzj
      have HT := hid ht
      clear hc ht
      by_cases h64 : (64 : Int) < t.size
      · have HX := hid (show ¬ Vc.MayT ts from fun h => by have := h.sz j (by omega); rw [HT.out] at this; omega)
        go_wp2_with fail
        go_ret
        exact ⟨Says.no HX.out, B1.out⟩
      have d64 : decide ((64 : Int) < t.size) = false := decide_eq_false h64
      by_cases hz : t.size = 0
      · have e1 := (ba_empty hz).1
        have e3 := (ba_empty hz).2
        have HS := hid hz
        clear hz
        go_wp2_with fail
        go_roundg (n - (j + 1))
        case measure => omega
        case rel => exact ⟨j + 1, rfl, by go_num, by omega, hid (fun i hi => by
          by_cases h : i < j
          · exact HA.out i h
          · obtain rfl : i = j := by omega
            rw [HT.out]
            exact ⟨by rw [HS.out]; omega, fun h => absurd HS.out h⟩), rfl⟩
      · have e1 := (ba_full hz).1
        have e3 := (ba_full hz).2
        obtain ⟨k, hk, hjk⟩ := Vc.lastOf_has (ts := ts) hlt (by rw [HT.out]; exact hz)
        rw [HT.out] at hk
        have hlk := HN.out.look1 t hzj hk
        have HS := hid hz
        have HK := hid hk
        clear hz hk
        by_cases hkj : k = j
        · subst hkj
          go_wp2_with fail
          go_roundg (n - (k + 1))
          case measure => omega
          case rel => exact ⟨k + 1, rfl, by go_num, by omega, hid (fun i hi => by
            by_cases h : i < k
            · exact HA.out i h
            · obtain rfl : i = k := by omega
              rw [HT.out]
              exact ⟨by omega, fun h => HK.out⟩), rfl⟩
        · have HX := hid (show ¬ Vc.MayT ts from fun h => hkj (by
            obtain ⟨q1, q2, q3⟩ := Vc.lastOf_some HK.out
            exact (h.apart j k (by omega) (by omega) (by rw [HT.out]; exact HS.out) (by rw [HT.out, q2])).symm))
          have d5 : ((k : Int) == (j : Int)) = false := by simp; omega
          have d6 : ¬ (k : Int) = j := by omega
          go_wp2_with fail
          go_ret
          exact ⟨Says.no HX.out, B1.out⟩
    · obtain rfl : j = n := by omega
      have k1 : ¬ ((j : Int) < j) := by omega
      go_wp2_with fail
      go_loopg [34] 256 (fun r iv wr => ∃ b : Nat, r = 256 - b ∧ iv = .int .i64 (b : Int) ∧ b ≤ 256 ∧ Hid (∀ i, i < b → ∃ k, k < j ∧ at_ ts k = Vc.one i) ∧ Hid (NumsIn wr w.heap.size ts j) ∧ Hid (Below w.heap.size w wr))
      case atStart => exact ⟨0, rfl, rfl, by omega, hid (fun i hi => by omega), HN, B1⟩
      case round =>
        obtain ⟨b, rfl, rfl, hb, HC, HM, HB⟩ := hrel
        by_cases hlt : b < 256
        · have i1 : (b : Int) < 256 := by omega
          have i0' : (0 : Int) ≤ b := by omega
          have e2 : IntKind.i64.wrap ((b : Int) + 1) = b + 1 := i64_in (by omega) (by omega)
          have e3 : IntKind.u8.wrap (b : Int) = b := u8_in' (by omega) (by omega)
          have cv := cv_one wr b
          obtain ⟨cc, t, hlk, hcase⟩ := (HM.out.alloc (.cells #[.int .u8 (b : Int)] 5)).look (Vc.one b) (by rw [one_size]; unfold maxLen; omega)
          have HCS := hid hcase
          clear hcase
          obtain ⟨S, hS⟩ : ∃ S, Vc.one b = S := ⟨_, rfl⟩
          rw [hS] at cv hlk HCS
          have HSS := hid hS
          clear hS
          cases t
          · have HX := hid (show ¬ Vc.MayT ts from fun h => by
              rcases HCS.out with h1 | h1
              · exact absurd h1.1 (by decide)
              · obtain ⟨i, hi, he⟩ := h.all b hlt
                obtain ⟨k, hk, _⟩ := Vc.lastOf_has (ts := ts) (j := j) (by omega) (i := i) (by rw [he, one_size]; decide)
                rw [he, HSS.out, h1.2] at hk
                cases hk)
            go_wp2_with fail
            go_ret
            exact ⟨Says.no HX.out, HB.out.alloc HB.out.size _⟩
          · go_wp2_with fail
            go_roundg (256 - (b + 1))
            case measure => omega
            case rel => exact ⟨b + 1, rfl, by go_num, by omega, hid (fun i hi => by
              by_cases h : i < b
              · exact HC.out i h
              · obtain rfl : i = b := by omega
                rcases HCS.out with h1 | h1
                · obtain ⟨_, k, _, hk⟩ := h1
                  obtain ⟨q1, q2, _⟩ := Vc.lastOf_some hk
                  exact ⟨k, q1, by rw [q2, HSS.out]⟩
                · exact absurd h1.1 (by decide)), hid (HM.out.alloc _), hid (HB.out.alloc HB.out.size _)⟩
        · obtain rfl : b = 256 := by omega
          have k2 : ¬ ((256 : Nat) : Int) < 256 := by omega
          have HX := hid (show Vc.MayT ts from ⟨by omega, fun i hi => (HA.out i (by omega)).1, fun i k hi hk hz he => by
            have h1 := (HA.out i (by omega)).2 hz
            have h2 := (HA.out k (by omega)).2 (by rw [← he]; exact hz)
            rw [he, h2] at h1
            exact (Option.some.inj h1).symm, fun b hb => by
            obtain ⟨k, hk, he⟩ := HC.out b hb
            exact ⟨k, by omega, he⟩⟩)
          go_wp2_with fail
          go_ret
          exact ⟨Says.yes HX.out, HB.out⟩
end Go.Proofs.Ytfgbpjajkmfkoaa
