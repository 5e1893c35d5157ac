/-
  Walks of package class: May, Of.
-/
import Derived.Test.YtedapokahgokgaaChecked
import Derived.Test.YtedapokahgokgaaClMath
import Derived.Test.YtedapokahgokgaaRs
import Derived.Deep.LoopGhost
namespace Go.Proofs.Ytedapokahgokgaa
open Go.RowKit
set_option linter.unusedVariables false

set_option maxHeartbeats 1000000 in
theorem may_some (b off n cap : Nat) (L H C : Nat → Int) (w : World) (hle : n ≤ cap) (hmx : cap ≤ maxLen) (hlt : b < w.heap.size) (ht : Tr w b off n L H C) :
    Calls Try.prog 10 #[.slice (some ⟨b, off, none⟩) n cap] w fun e w' => e = .returned (.bool (Cl.may L H C n)) ∧ Below w.heap.size w w' := by
  unfold maxLen at hmx
  have T := hid ht
  clear ht
  by_cases h200 : 200 < n
  · have h200' : (200 : Int) < n := by omega
    go_enter Try.func10, Try.ntmps10
    go_wp2_with fail
    go_ret
    exact ⟨ret_bool (Cl.may_false (fun h => by have := h.1; omega)).symm, Below.refl _ _⟩
  have h200' : ¬ (200 : Int) < n := by omega
  go_enter Try.func10, Try.ntmps10
  go_wp2_with fail
  go_loopg [3, 11] n (fun k last iv wr => ∃ j : Nat, k = n - j ∧ j ≤ n ∧ iv = .int .i64 j ∧ last = .int .i64 (Cl.prev H j) ∧ Hid (∀ i, i < j → Cl.okAt L H C i) ∧ Hid (Below w.heap.size w wr))
  case atStart => exact ⟨0, by omega, by omega, rfl, rfl, hid (fun i hi => absurd hi (by omega)), hid (Below.refl _ _)⟩
  case round =>
    obtain ⟨j, rfl, hj, rfl, rfl, HO, HB⟩ := hrel
    by_cases hjn : j < n
    · have hjn' : (j : Int) < n := by omega
      have hjc : (j : Int) < cap := by omega
      have q := T.out.below hlt HB.out
      have q0 := q.lo j hjn
      have q1 := q.hi j hjn
      have q2 := q.cl j hjn
      clear q
      by_cases hok : Cl.okAt L H C j
      · have hok' := hok
        obtain ⟨o1, o2, o3, o4, o5⟩ := hok'
        have OK := hid hok
        clear hok
        go_wp2_with fail
        go_roundg (n - (j + 1))
        case measure => omega
        case rel => exact ⟨j + 1, rfl, by omega, by go_num, rfl, hid (fun i hi => by rcases Nat.lt_succ_iff_lt_or_eq.1 hi with h | rfl; exact HO.out i h; exact OK.out), hid (HB.out.alloc HB.out.size _)⟩
      · have NO := hid (Cl.may_false (L := L) (H := H) (C := C) (n := n) (fun h => hok (h.2 j hjn)))
        have OK := hid hok
        clear hok
        go_wp2_with fail
        all_goals first
          | (go_ret; exact ⟨ret_bool NO.out.symm, HB.out.alloc HB.out.size _⟩)
          | (exfalso; exact OK.out ⟨by omega, by omega, by omega, by omega, by omega⟩)
    · obtain rfl : j = n := by omega
      have YES := hid (Cl.may_true (L := L) (H := H) (C := C) (n := j) ⟨by omega, HO.out⟩)
      go_wp2_with fail
      go_ret
      exact ⟨ret_bool YES.out.symm, HB.out⟩

set_option maxHeartbeats 1000000 in
theorem may_zero (a : Option Addr) (cap : Nat) (L H C : Nat → Int) (w : World) :
    Calls Try.prog 10 #[.slice a 0 cap] w fun e w' => e = .returned (.bool (Cl.may L H C 0)) ∧ Below w.heap.size w w' := by
  have YES := hid (Cl.may_true (L := L) (H := H) (C := C) (n := 0) ⟨by omega, fun i hi => absurd hi (by omega)⟩)
  go_enter Try.func10, Try.ntmps10
  go_wp2_with fail
  go_loopg [11] 0 (fun k iv wr => iv = .int .i64 0 ∧ wr = w)
  case atStart => exact ⟨rfl, rfl⟩
  case round =>
    obtain ⟨rfl, rfl⟩ := hrel
    go_wp2_with fail
    go_ret
    exact ⟨ret_bool YES.out.symm, Below.refl _ _⟩
theorem may_calls (a : Option Addr) (n cap : Nat) (L H C : Nat → Int) (w : World) (h : Rs w a n cap L H C) :
    Calls Try.prog 10 #[.slice a n cap] w fun e w' => e = .returned (.bool (Cl.may L H C n)) ∧ Below w.heap.size w w' := by
  rcases Nat.eq_zero_or_pos n with rfl | hn
  · exact may_zero a cap L H C w
  · obtain ⟨b, off, rfl, hlt, ht⟩ := h.at' hn
    exact may_some b off n cap L H C w h.le h.mx hlt ht

set_option maxHeartbeats 1000000 in
theorem of_some (b off n cap : Nat) (L H C : Nat → Int) (p : Int) (w : World) (hle : n ≤ cap) (hmx : cap ≤ maxLen) (hlt : b < w.heap.size) (ht : Tr w b off n L H C) :
    Calls Try.prog 11 #[.slice (some ⟨b, off, none⟩) n cap, .int .i64 p] w fun e w' => e = .returned (.int .i64 (Cl.of L H C n p)) ∧ Below w.heap.size w w' := by
  have hmx' := hmx
  unfold maxLen at hmx
  have T := hid ht
  clear ht
  cases hm : Cl.may L H C n
  · have E := hid (show Cl.of L H C n p = 0 by unfold Cl.of; rw [hm]; rfl)
    have HM := hid hm
    clear hm
    go_enter Try.func11, Try.ntmps11
    go_wp2_with fail
    refine (may_some b off n cap L H C _ hle hmx' hlt T.out).mono ?_
    rintro e w1 ⟨rfl, bel⟩
    rw [HM.out]
    go_wp2_with fail
    go_ret
    exact ⟨ret_int E.out.symm, bel⟩
  · have E := hid (show Cl.of L H C n p = Cl.cls L H C p 0 n by unfold Cl.of; rw [hm]; rfl)
    have HM := hid hm
    clear hm
    go_enter Try.func11, Try.ntmps11
    go_wp2_with fail
    refine (may_some b off n cap L H C _ hle hmx' hlt T.out).mono ?_
    rintro e w1 ⟨rfl, bel⟩
    rw [HM.out]
    have B1 := hid bel
    clear bel
    go_wp2_with fail
    go_loopg [12] n (fun k iv wr => ∃ j : Nat, k = n - j ∧ j ≤ n ∧ iv = .int .i64 j ∧ Hid (Cl.cls L H C p j (n - j) = Cl.cls L H C p 0 n) ∧ Hid (Below w.heap.size w wr))
    case atStart => exact ⟨0, by omega, by omega, rfl, hid rfl, B1⟩
    case round =>
      obtain ⟨j, rfl, hj, rfl, HC, HB⟩ := hrel
      by_cases hjn : j < n
      · have hjn' : (j : Int) < n := by omega
        have hjc : (j : Int) < cap := by omega
        have q := T.out.below hlt HB.out
        have q0 := q.lo j hjn
        have q1 := q.hi j hjn
        have q2 := q.cl j hjn
        clear q
        by_cases hin : L j ≤ p ∧ p ≤ H j
        · obtain ⟨i1, i2⟩ := hin
          have V := hid (E.out.trans (HC.out.symm.trans (Cl.cls_in (by omega) i1 i2)))
          go_wp2_with fail
          go_ret
          exact ⟨ret_int V.out.symm, HB.out.alloc HB.out.size _⟩
        · have V := hid ((Cl.cls_out (L := L) (H := H) (C := C) (p := p) (k := j) (m := n - j) (by omega) hin).symm.trans HC.out)
          have hin' := hin
          have NI := hid hin
          clear hin hin'
          go_wp2_with fail
          all_goals first
            | (exfalso; exact NI.out ⟨by omega, by omega⟩)
            | skip
          all_goals go_roundg (n - (j + 1))
          all_goals first
            | (case measure => omega)
            | exact ⟨j + 1, rfl, by omega, by go_num, V, hid (HB.out.alloc HB.out.size _)⟩
      · obtain rfl : j = n := by omega
        have V := hid (E.out.trans (HC.out.symm.trans (show _ = (0 : Int) by rw [Nat.sub_self]; rfl)))
        go_wp2_with fail
        go_ret
        exact ⟨ret_int V.out.symm, HB.out⟩

set_option maxHeartbeats 1000000 in
theorem of_zero (a : Option Addr) (cap : Nat) (L H C : Nat → Int) (p : Int) (w : World) :
    Calls Try.prog 11 #[.slice a 0 cap, .int .i64 p] w fun e w' => e = .returned (.int .i64 (Cl.of L H C 0 p)) ∧ Below w.heap.size w w' := by
  have HM := hid (Cl.may_true (L := L) (H := H) (C := C) (n := 0) ⟨by omega, fun i hi => absurd hi (by omega)⟩)
  have E := hid (show Cl.of L H C 0 p = 0 by unfold Cl.of; rw [HM.out]; rfl)
  go_enter Try.func11, Try.ntmps11
  go_wp2_with fail
  refine (may_zero a cap L H C _).mono ?_
  rintro e w1 ⟨rfl, bel⟩
  rw [HM.out]
  have B1 := hid bel
  clear bel
  go_wp2_with fail
  go_loopg [12] 0 (fun k iv wr => iv = .int .i64 0 ∧ wr = w1)
  case atStart => exact ⟨rfl, rfl⟩
  case round =>
    obtain ⟨rfl, rfl⟩ := hrel
    go_wp2_with fail
    go_ret
    exact ⟨ret_int E.out.symm, B1.out⟩
theorem of_calls (a : Option Addr) (n cap : Nat) (L H C : Nat → Int) (p : Int) (w : World) (h : Rs w a n cap L H C) :
    Calls Try.prog 11 #[.slice a n cap, .int .i64 p] w fun e w' => e = .returned (.int .i64 (Cl.of L H C n p)) ∧ Below w.heap.size w w' := by
  rcases Nat.eq_zero_or_pos n with rfl | hn
  · exact of_zero a cap L H C p w
  · obtain ⟨b, off, rfl, hlt, ht⟩ := h.at' hn
    exact of_some b off n cap L H C p w h.le h.mx hlt ht
end Go.Proofs.Ytedapokahgokgaa
