/-
  Walk of the reference's Same at rows of numbers (split off PrRef).
-/
import Derived.Test.YtbcanfelfdalbaaChecked
import Derived.Test.YtbcanfelfdalbaaLotG
import Derived.Deep.QuietTactic
import Derived.BigQuiet
import Derived.WalkKit
import Derived.Deep.LoopGhost
namespace Go.Proofs.Ytbcanfelfdalbaa
open Go.RowKit Go.Maps
open Pr (it)
set_option linter.unusedVariables false

set_option maxRecDepth 100000 in
set_option maxHeartbeats 3200000 in
theorem same_calls {w : World} {a b : Option Addr} {n c m d : Nat} {xs ys : Pr.Row} (R : Ir w a n c xs) (Q : Ir w b m d ys) :
    Calls Try.prog 15 #[.slice a n c, .slice b m d] w fun e w' => Says e (xs = ys) ∧ Below w.heap.size w w' := by
  have hl := R.len
  have hk := Q.len
  have hn : n ≤ 9223372036854775807 := by have := R.le; have := R.mx; unfold maxLen at this; omega
  have RW := hid R
  have QW := hid Q
  clear R Q
  by_cases hnm : n = m
  · subst hnm
    go_enter Try.func15, Try.ntmps15
    go_wp2_with fail
    go_loopg [13] n (fun r iv wr => ∃ j : Nat, r = n - j ∧ j ≤ n ∧ iv = .int .i64 j ∧ Hid (∀ i, i < j → it xs i = it ys i) ∧ Hid (Below w.heap.size w wr))
    case atStart => exact ⟨0, rfl, by omega, rfl, hid (fun i hi => by omega), hid (Below.refl _ _)⟩
    case round =>
      obtain ⟨j, rfl, hj, rfl, HA, HB⟩ := hrel
      by_cases hlt : j < n
      · have l0 : (0 : Int) ≤ j := by omega
        have l1 : (j : Int) < n := by omega
        have l2 : IntKind.i64.wrap ((j : Int) + 1) = j + 1 := i64_in (by omega) (by omega)
        obtain ⟨b1, o1, rfl, hb1, hc1⟩ := (RW.out.below HB.out).at' (by omega)
        obtain ⟨b2, o2, rfl, hb2, hc2⟩ := (QW.out.below HB.out).at' (by omega)
        have q1 := hc1 j hlt
        have q2 := hc2 j hlt
        obtain ⟨x, hx⟩ : ∃ x, it xs j = x := ⟨_, rfl⟩
        obtain ⟨y, hy⟩ : ∃ x, it ys j = x := ⟨_, rfl⟩
        rw [hx] at q1
        rw [hy] at q2
        have HX := hid hx
        have HY := hid hy
        clear hc1 hc2 hx hy
        by_cases hs : x = y
        · subst hs
          go_wp2_with fail
          go_quiet (fail)
          have HB2 := hid (below_drewN HB.out nq)
          go_wp2_with fail
          go_roundg (n - (j + 1))
          case measure => omega
          case rel => exact ⟨j + 1, rfl, by omega, by go_num, hid (fun i hi => by
            by_cases h : i < j
            · exact HA.out i h
            · obtain rfl : i = j := by omega
              rw [HX.out, HY.out]), HB2⟩
        · have e1 : (x == y) = false := by simpa using hs
          have HN := hid (show ¬ xs = ys from fun h => hs (by rw [← HX.out, ← HY.out, h]))
          go_wp2_with fail
          go_quiet (fail)
          have HB2 := hid (below_drewN HB.out nq)
          go_wp2_with fail
          go_ret
          exact ⟨Says.no HN.out, HB2.out⟩
      · have l1 : ¬ (j : Int) < n := by omega
        have HN := hid (show xs = ys from Pr.it_ext (by omega) (fun i hi => HA.out i (by omega)))
        go_wp2_with fail
        go_ret
        exact ⟨Says.yes HN.out, HB.out⟩
  · have e1 : ((n : Int) == (m : Int)) = false := by simpa using fun h => hnm (by omega)
    have HN := hid (show ¬ xs = ys from fun h => hnm (by rw [← hl, ← hk, h]))
    go_enter Try.func15, Try.ntmps15
    go_wp2_with fail
    go_ret
    exact ⟨Says.no HN.out, Below.refl _ _⟩

end Go.Proofs.Ytbcanfelfdalbaa
