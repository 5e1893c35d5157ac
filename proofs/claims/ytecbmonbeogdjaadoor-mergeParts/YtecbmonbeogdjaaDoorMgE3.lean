/-
  The walk of the reference's Great.
-/
import Derived.Test.YtecbmonbeogdjaaDoorMgFile
import Derived.Deep.LoopGhost
namespace Go.Proofs.YtecbmonbeogdjaaDoor
open Go.RowKit
set_option linter.unusedVariables false

/-- Tables within bounds. -/
def Mg.Small (rs : Mg.Rows) (ps : Mg.Prs) (many long : Nat) : Prop :=
  rs.length ≤ many ∧ ps.length ≤ many ∧ (∀ i, i < rs.length → (tat rs i).size ≤ long) ∧ ∀ i, i < ps.length → (lat ps i).size ≤ long ∧ (gat ps i).size ≤ long

set_option maxRecDepth 100000 in
set_option maxHeartbeats 1600000 in
theorem great_calls (many long : Nat) {w : World} {a ap : Option Addr} {n c m cp : Nat} {rs : Mg.Rows} {ps : Mg.Prs} (h1 : Rw w a n c rs) (h2 : Pw w ap m cp ps) (hmany : many ≤ 1000) (hlong : long ≤ 1000) :
    Calls Tryd.prog 6 #[.agg #[.slice a n c, .slice ap m cp], .int .i64 many, .int .i64 long] w fun e w' => Says e (¬ Mg.Small rs ps many long) ∧ Below w.heap.size w w' := by
  have hl := h1.len
  have hlp := h2.len
  have B0 := hid ((Below.refl w.heap.size w).alloc (Nat.le_refl _) (.cells #[.slice a n c, .slice ap m cp] 25))
  have X0 := hid (Bx2.new w 25 (.slice a n c) (.slice ap m cp))
  have H0 := hid (h1.below B0.out)
  have P0 := hid (h2.below B0.out)
  clear h1 h2
  by_cases hn : many < n
  · have hn' : (many : Int) < n := by omega
    have HN := hid (show ¬ Mg.Small rs ps many long from fun h => by have := h.1; omega)
    go_enter Tryd.func6, Tryd.ntmps6
    go_wp2_with fail
    go_ret
    exact ⟨Says.yes HN.out, B0.out⟩
  have hn' : ¬ (many : Int) < n := by omega
  by_cases hm : many < m
  · have hm' : (many : Int) < m := by omega
    have HN := hid (show ¬ Mg.Small rs ps many long from fun h => by have := h.2.1; omega)
    go_enter Tryd.func6, Tryd.ntmps6
    go_wp2_with fail
    go_ret
    exact ⟨Says.yes HN.out, B0.out⟩
  have hm' : ¬ (many : Int) < m := by omega
  go_enter Tryd.func6, Tryd.ntmps6
  go_wp2_with fail
  obtain ⟨W0, hW0⟩ : ∃ W0, w.alloc (.cells #[.slice a n c, .slice ap m cp] 25) = W0 := ⟨_, rfl⟩
  rw [hW0] at B0 X0 H0 P0 ⊢
  obtain ⟨R, hR⟩ : ∃ R, w.heap.size = R := ⟨_, rfl⟩
  rw [hR] at X0
  simp only [hR]
  clear hW0 hR
  have x0 := X0.out.cell0
  have x1 := X0.out.cell1
  go_loopg [24] n (fun r iv wr => ∃ j : Nat, r = n - j ∧ j ≤ n ∧ iv = .int .i64 j ∧ Hid (∀ i, i < j → (tat rs i).size ≤ long) ∧ W0 = wr)
  case atStart => exact ⟨0, rfl, by omega, rfl, hid (fun i hi => by omega), rfl⟩
  case round =>
    obtain ⟨j, rfl, hj, rfl, HA, rfl⟩ := hrel
    by_cases hlt : j < n
    · have k1 : (j : Int) < n := by omega
      have k0 : (0 : Int) ≤ j := by omega
      have e2 : IntKind.i64.wrap ((j : Int) + 1) = j + 1 := i64_in (by omega) (by omega)
      obtain ⟨b, off, rfl, hbl, hc⟩ := H0.out.at' (by omega)
      obtain ⟨q1, p1⟩ := hc j hlt
      obtain ⟨t, ht⟩ : ∃ t, tat rs j = t := ⟨_, rfl⟩
      rw [ht] at q1
      have HT := hid ht
      clear hc ht p1
      by_cases h64 : long < t.size
      · have h64' : (long : Int) < t.size := by omega
        have HN := hid (show ¬ Mg.Small rs ps many long from fun h => by have := h.2.2.1 j (by omega); rw [HT.out] at this; omega)
        go_wp2_with fail
        go_ret
        exact ⟨Says.yes HN.out, B0.out⟩
      · have h64' : ¬ (long : Int) < t.size := by omega
        go_wp2_with fail
        go_roundg (n - (j + 1))
        case measure => omega
        case rel => exact ⟨j + 1, rfl, by omega, by go_num, hid (fun i hi => by
          by_cases h : i < j
          · exact HA.out i h
          · obtain rfl : i = j := by omega
            rw [HT.out]; omega), rfl⟩
    · obtain rfl : j = n := by omega
      have k1 : ¬ (j : Int) < j := by omega
      go_wp2_with fail
      go_loopg [40] m (fun r iv wr => ∃ j2 : Nat, r = m - j2 ∧ j2 ≤ m ∧ iv = .int .i64 j2 ∧ Hid (∀ i, i < j2 → (lat ps i).size ≤ long ∧ (gat ps i).size ≤ long) ∧ W0 = wr)
      case atStart => exact ⟨0, rfl, by omega, rfl, hid (fun i hi => by omega), rfl⟩
      case round =>
        obtain ⟨j2, rfl, hj2, rfl, HP, rfl⟩ := hrel
        clear k1
        by_cases hlt : j2 < m
        · have k1 : (j2 : Int) < m := by omega
          have k0 : (0 : Int) ≤ j2 := by omega
          have e2 : IntKind.i64.wrap ((j2 : Int) + 1) = j2 + 1 := i64_in (by omega) (by omega)
          obtain ⟨b, off, rfl, hbl, hc⟩ := P0.out.at' (by omega)
          obtain ⟨q1, p1⟩ := hc j2 hlt
          obtain ⟨t, ht⟩ : ∃ t, lat ps j2 = t := ⟨_, rfl⟩
          obtain ⟨k, hk⟩ : ∃ k, gat ps j2 = k := ⟨_, rfl⟩
          rw [ht] at q1
          rw [hk] at p1
          have HT := hid (And.intro ht hk)
          clear hc ht hk
          by_cases h64 : long < t.size
          · have h64' : (long : Int) < t.size := by omega
            have HN := hid (show ¬ Mg.Small rs ps many long from fun h => by have := (h.2.2.2 j2 (by omega)).1; rw [HT.out.1] at this; omega)
            go_wp2_with fail
            go_ret
            exact ⟨Says.yes HN.out, B0.out⟩
          have h64' : ¬ (long : Int) < t.size := by omega
          by_cases h65 : long < k.size
          · have h65' : (long : Int) < k.size := by omega
            have HN := hid (show ¬ Mg.Small rs ps many long from fun h => by have := (h.2.2.2 j2 (by omega)).2; rw [HT.out.2] at this; omega)
            go_wp2_with fail
            go_ret
            exact ⟨Says.yes HN.out, B0.out⟩
          have h65' : ¬ (long : Int) < k.size := by omega
          go_wp2_with fail
          go_roundg (m - (j2 + 1))
          case measure => omega
          case rel => exact ⟨j2 + 1, rfl, by omega, by go_num, hid (fun i hi => by
            by_cases h : i < j2
            · exact HP.out i h
            · obtain rfl : i = j2 := by omega
              rw [HT.out.1, HT.out.2]; omega), rfl⟩
        · obtain rfl : j2 = m := by omega
          have k1 : ¬ (j2 : Int) < j2 := by omega
          have HN := hid (show Mg.Small rs ps many long from ⟨by omega, by omega, fun i hi => HA.out i (by omega), fun i hi => HP.out i (by omega)⟩)
          go_wp2_with fail
          go_ret
          exact ⟨Says.no (fun h => h HN.out), B0.out⟩
end Go.Proofs.YtecbmonbeogdjaaDoor
