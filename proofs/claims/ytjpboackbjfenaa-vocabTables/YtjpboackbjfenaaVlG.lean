/-
  Walk of the law's great.
-/
import Derived.Test.YtjpboackbjfenaaVcW7
namespace Go.Proofs.Ytjpboackbjfenaa
open Go.RowKit
set_option linter.unusedVariables false

/-- No more than is gone through. -/
structure Vc.SmallR (rs : Vc.Sps) (ps : List (ByteArray × ByteArray)) (sp : Vc.Sps) : Prop where
  r : rs.length ≤ 400
  p : ps.length ≤ 200
  s : sp.length ≤ 20
  rz : ∀ i, i < rs.length → (tat rs i).size ≤ 80
  pz : ∀ i, i < ps.length → (lat ps i).size ≤ 80 ∧ (gat ps i).size ≤ 80
  sz : ∀ i, i < sp.length → (tat sp i).size ≤ 40

set_option maxRecDepth 100000 in
set_option maxHeartbeats 3200000 in
theorem lgreat_calls {w : World} {a b az : Option Addr} {n c m e ns cs : Nat} {rs sp : Vc.Sps} {ps : List (ByteArray × ByteArray)} (V : Rw w a n c rs) (U : Pw w b m e ps) (Q : Rw w az ns cs sp) :
    Calls Try.prog 13 #[.slice a n c, .slice b m e, .slice az ns cs] w fun e w' => Says e (¬ Vc.SmallR rs ps sp) ∧ Below w.heap.size w w' := by
  have hl := V.len
  have hlp := U.len
  have hls := Q.len
  have VW := hid V
  have UW := hid U
  have QW := hid Q
  clear V U Q
  by_cases g1 : (400 : Int) < n
  · have HN := hid (show ¬ Vc.SmallR rs ps sp from fun h => by have := h.r; omega)
    go_enter Try.func13, Try.ntmps13
    go_wp2_with fail
    go_ret
    exact ⟨Says.yes HN.out, Below.refl _ _⟩
  have d1 : decide ((400 : Int) < n) = false := decide_eq_false g1
  by_cases g2 : (200 : Int) < m
  · have HN := hid (show ¬ Vc.SmallR rs ps sp from fun h => by have := h.p; omega)
    go_enter Try.func13, Try.ntmps13
    go_wp2_with fail
    go_ret
    exact ⟨Says.yes HN.out, Below.refl _ _⟩
  have d2 : decide ((200 : Int) < m) = false := decide_eq_false g2
  by_cases g3 : (20 : Int) < ns
  · have HN := hid (show ¬ Vc.SmallR rs ps sp from fun h => by have := h.s; omega)
    go_enter Try.func13, Try.ntmps13
    go_wp2_with fail
    go_ret
    exact ⟨Says.yes HN.out, Below.refl _ _⟩
  have d3 : decide ((20 : Int) < ns) = false := decide_eq_false g3
  go_enter Try.func13, Try.ntmps13
  go_wp2_with fail
  go_loopg [28] n (fun r iv wr => ∃ j : Nat, r = n - j ∧ j ≤ n ∧ iv = .int .i64 j ∧ Hid (∀ i, i < j → (tat rs i).size ≤ 80) ∧ Hid (Below w.heap.size w wr))
  case atStart => exact ⟨0, rfl, by omega, rfl, hid (fun i hi => by omega), hid (Below.refl _ _)⟩
  case round =>
    obtain ⟨j, rfl, hj, rfl, HA, HB⟩ := hrel
    by_cases hlt : j < n
    · have l0 : (0 : Int) ≤ j := by omega
      have l1 : (j : Int) < n := by omega
      have l2 : IntKind.i64.wrap ((j : Int) + 1) = j + 1 := i64_in (by omega) (by omega)
      obtain ⟨b0, off, rfl, hbl, hc⟩ := (VW.out.below HB.out).at' (by omega)
      obtain ⟨q1, q2⟩ := hc j hlt
      obtain ⟨t, ht⟩ : ∃ t, tat rs j = t := ⟨_, rfl⟩
      obtain ⟨x, hx⟩ : ∃ t, kat rs j = t := ⟨_, rfl⟩
      rw [ht] at q1
      rw [hx] at q2
      have HT := hid ht
      clear hc ht hx
      have HB2 := hid (HB.out.alloc HB.out.size (.cells #[.string t, .int .i64 x] 32))
      by_cases hs : (80 : Int) < t.size
      · have HN := hid (show ¬ Vc.SmallR rs ps sp from fun h => by have := h.rz j (by omega); rw [HT.out] at this; omega)
        go_wp2_with fail
        go_ret
        exact ⟨Says.yes HN.out, HB2.out⟩
      · have d4 : decide ((80 : Int) < t.size) = false := decide_eq_false hs
        go_wp2_with fail
        go_roundg (n - (j + 1))
        case measure => omega
        case rel => exact ⟨j + 1, rfl, by omega, by go_num, hid (fun i hi => by
          by_cases h : i < j
          · exact HA.out i h
          · obtain rfl : i = j := by omega
            rw [HT.out]; omega), HB2⟩
    · have l1 : ¬ (j : Int) < n := by omega
      go_wp2_with fail
      go_loopg [39] m (fun r iv wr => ∃ k : Nat, r = m - k ∧ k ≤ m ∧ iv = .int .i64 k ∧ Hid (∀ i, i < k → (lat ps i).size ≤ 80 ∧ (gat ps i).size ≤ 80) ∧ Hid (Below w.heap.size w wr))
      case atStart => exact ⟨0, rfl, by omega, rfl, hid (fun i hi => by omega), HB⟩
      case round =>
        obtain ⟨k, rfl, hk, rfl, HC, HB1⟩ := hrel
        by_cases hlt : k < m
        · have l0 : (0 : Int) ≤ k := by omega
          have l1 : (k : Int) < m := by omega
          have l2 : IntKind.i64.wrap ((k : Int) + 1) = k + 1 := i64_in (by omega) (by omega)
          obtain ⟨b0, off, rfl, hbl, hc⟩ := (UW.out.below HB1.out).at' (by omega)
          obtain ⟨q1, q2⟩ := hc k hlt
          obtain ⟨t, ht⟩ : ∃ t, lat ps k = t := ⟨_, rfl⟩
          obtain ⟨u, hu⟩ : ∃ t, gat ps k = t := ⟨_, rfl⟩
          rw [ht] at q1
          rw [hu] at q2
          have HT := hid ht
          have HU := hid hu
          clear hc ht hu
          have HB2 := hid (HB1.out.alloc HB1.out.size (.cells #[.string t, .string u] 58))
          by_cases hs : (80 : Int) < t.size
          · have HN := hid (show ¬ Vc.SmallR rs ps sp from fun h => by have := (h.pz k (by omega)).1; rw [HT.out] at this; omega)
            go_wp2_with fail
            go_ret
            exact ⟨Says.yes HN.out, HB2.out⟩
          · have d4 : decide ((80 : Int) < t.size) = false := decide_eq_false hs
            by_cases hs2 : (80 : Int) < u.size
            · have HN := hid (show ¬ Vc.SmallR rs ps sp from fun h => by have := (h.pz k (by omega)).2; rw [HU.out] at this; omega)
              go_wp2_with fail
              go_ret
              exact ⟨Says.yes HN.out, HB2.out⟩
            · have d5 : decide ((80 : Int) < u.size) = false := decide_eq_false hs2
              go_wp2_with fail
              go_roundg (m - (k + 1))
              case measure => omega
              case rel => exact ⟨k + 1, rfl, by omega, by go_num, hid (fun i hi => by
                by_cases h : i < k
                · exact HC.out i h
                · obtain rfl : i = k := by omega
                  rw [HT.out, HU.out]; omega), HB2⟩
        · have l1 : ¬ (k : Int) < m := by omega
          go_wp2_with fail
          go_loopg [56] ns (fun r iv wr => ∃ k : Nat, r = ns - k ∧ k ≤ ns ∧ iv = .int .i64 k ∧ Hid (∀ i, i < k → (tat sp i).size ≤ 40) ∧ Hid (Below w.heap.size w wr))
          case atStart => exact ⟨0, rfl, by omega, rfl, hid (fun i hi => by omega), HB1⟩
          case round =>
            obtain ⟨k2, rfl, hk2, rfl, HD, HB3⟩ := hrel
            by_cases hlt : k2 < ns
            · have l0 : (0 : Int) ≤ k2 := by omega
              have l1 : (k2 : Int) < ns := by omega
              have l2 : IntKind.i64.wrap ((k2 : Int) + 1) = k2 + 1 := i64_in (by omega) (by omega)
              obtain ⟨b0, off, rfl, hbl, hc⟩ := (QW.out.below HB3.out).at' (by omega)
              obtain ⟨q1, q2⟩ := hc k2 hlt
              obtain ⟨t, ht⟩ : ∃ t, tat sp k2 = t := ⟨_, rfl⟩
              obtain ⟨x, hx⟩ : ∃ t, kat sp k2 = t := ⟨_, rfl⟩
              rw [ht] at q1
              rw [hx] at q2
              have HT := hid ht
              clear hc ht hx
              have HB2 := hid (HB3.out.alloc HB3.out.size (.cells #[.string t, .int .i64 x] 49))
              by_cases hs : (40 : Int) < t.size
              · have HN := hid (show ¬ Vc.SmallR rs ps sp from fun h => by have := h.sz k2 (by omega); rw [HT.out] at this; omega)
                go_wp2_with fail
                go_ret
                exact ⟨Says.yes HN.out, HB2.out⟩
              · have d4 : decide ((40 : Int) < t.size) = false := decide_eq_false hs
                go_wp2_with fail
                go_roundg (ns - (k2 + 1))
                case measure => omega
                case rel => exact ⟨k2 + 1, rfl, by omega, by go_num, hid (fun i hi => by
                  by_cases h : i < k2
                  · exact HD.out i h
                  · obtain rfl : i = k2 := by omega
                    rw [HT.out]; omega), HB2⟩
            · have l1 : ¬ (k2 : Int) < ns := by omega
              have HN := hid (show ¬ ¬ Vc.SmallR rs ps sp from fun h => h ⟨by omega, by omega, by omega, fun i hi => HA.out i (by omega), fun i hi => HC.out i (by omega), fun i hi => HD.out i (by omega)⟩)
              go_wp2_with fail
              go_ret
              exact ⟨Says.no HN.out, HB3.out⟩
end Go.Proofs.Ytjpboackbjfenaa
