/-
  Walks of the reference's May and Of.
-/
import Derived.Test.YtedapokahgokgaaChecked
import Derived.Test.YtedapokahgokgaaClMath
import Derived.Test.YtedapokahgokgaaRs
import Derived.Deep.LoopGhost
import Derived.Deep.QuietTactic
import Derived.BigQuiet
import Derived.WalkSmall
namespace Go.Proofs.Ytedapokahgokgaa
open Go.RowKit
set_option linter.unusedVariables false

theorem dec_false {p : Prop} [Decidable p] (h : ¬ p) : decide p = false := by simpa using h

set_option maxHeartbeats 2000000 in
theorem rmay_some (b off n cap : Nat) (L H C : Nat → Int) (w : World) (hle : n ≤ cap) (hmx : cap ≤ maxLen) (hlt : b < w.heap.size) (ht : Tr w b off n L H C) :
    Calls Try.prog 8 #[.slice (some ⟨b, off, none⟩) n cap] w fun e w' => e = .returned (.bool (Cl.may L H C n)) ∧ Below w.heap.size w w' := by
  unfold maxLen at hmx
  have T := hid ht
  clear ht
  by_cases h200 : 200 < n
  · have h200' : (200 : Int) < n := by omega
    go_enter Try.func8, Try.ntmps8
    go_wp2_with fail
    go_ret
    exact ⟨ret_bool (Cl.may_false (fun h => by have := h.1; omega)).symm, Below.refl _ _⟩
  have h200' : ¬ (200 : Int) < n := by omega
  go_enter Try.func8, Try.ntmps8
  go_wp2_with fail
  go_loopg [3, 10] n (fun k last iv wr => ∃ j d : Nat, k = n - j ∧ j ≤ n ∧ iv = .int .i64 j ∧ last = .int .i64 (Cl.prev H j) ∧ Hid (∀ i, i < j → Cl.okAt L H C i) ∧ wr = w.drewN d)
  case atStart => exact ⟨0, 0, by omega, by omega, rfl, rfl, hid (fun i hi => absurd hi (by omega)), rfl⟩
  case round =>
    obtain ⟨j, d, rfl, hj, rfl, rfl, HO, rfl⟩ := hrel
    have HB := hid (below_drewN (Below.refl w.heap.size w) d)
    by_cases hjn : j < n
    · have hjn' : (j : Int) < n := by omega
      have hjc : (j : Int) < cap := by omega
      have q := T.out
      have q0 := q.lo j hjn
      have q1 := q.hi j hjn
      have q2 := q.cl j hjn
      clear q
      by_cases hok : Cl.okAt L H C j
      · have hok' := hok
        obtain ⟨o1, o2, o3, o4, o5⟩ := hok'
        have OK := hid hok
        clear hok
        have d1 := dec_false (show ¬ L j ≤ Cl.prev H j by omega)
        have d2 := dec_false (show ¬ H j < L j by omega)
        have d3 := dec_false (show ¬ (1114111 : Int) < H j by omega)
        have d4 := dec_false (show ¬ C j < 1 by omega)
        have d5 := dec_false (show ¬ 4 < C j by omega)
        go_wp2_with fail
        go_quiet (fail)
        go_wp2_with fail
        go_roundg (n - (j + 1))
        case measure => omega
        case rel => exact ⟨j + 1, d + nq, rfl, by omega, by go_num, rfl, hid (fun i hi => by rcases Nat.lt_succ_iff_lt_or_eq.1 hi with h | rfl; exact HO.out i h; exact OK.out), rfl⟩
      · have NO := hid (Cl.may_false (L := L) (H := H) (C := C) (n := n) (fun h => hok (h.2 j hjn)))
        have FIN := fun nq => below_drewN HB.out nq
        have FIN := hid FIN
        by_cases c1 : L j ≤ Cl.prev H j
        · clear hok
          go_wp2_with fail
          go_quiet (fail)
          go_wp2_with fail
          go_ret
          exact ⟨ret_bool NO.out.symm, FIN.out _⟩
        have d1 := dec_false c1
        by_cases c2 : H j < L j
        · clear hok
          go_wp2_with fail
          go_quiet (fail)
          go_wp2_with fail
          go_ret
          exact ⟨ret_bool NO.out.symm, FIN.out _⟩
        have d2 := dec_false c2
        by_cases c3 : (1114111 : Int) < H j
        · clear hok
          go_wp2_with fail
          go_quiet (fail)
          go_wp2_with fail
          go_ret
          exact ⟨ret_bool NO.out.symm, FIN.out _⟩
        have d3 := dec_false c3
        by_cases c4 : C j < 1
        · clear hok
          go_wp2_with fail
          go_quiet (fail)
          go_wp2_with fail
          go_ret
          exact ⟨ret_bool NO.out.symm, FIN.out _⟩
        have d4 := dec_false c4
        by_cases c5 : 4 < C j
        · clear hok
          go_wp2_with fail
          go_quiet (fail)
          go_wp2_with fail
          go_ret
          exact ⟨ret_bool NO.out.symm, FIN.out _⟩
        exact absurd ⟨by omega, by omega, by omega, by omega, by omega⟩ hok
    · obtain rfl : j = n := by omega
      have YES := hid (Cl.may_true (L := L) (H := H) (C := C) (n := j) ⟨by omega, HO.out⟩)
      go_wp2_with fail
      go_ret
      exact ⟨ret_bool YES.out.symm, HB.out⟩

set_option maxHeartbeats 1000000 in
theorem rmay_zero (a : Option Addr) (cap : Nat) (L H C : Nat → Int) (w : World) :
    Calls Try.prog 8 #[.slice a 0 cap] w fun e w' => e = .returned (.bool (Cl.may L H C 0)) ∧ Below w.heap.size w w' := by
  have YES := hid (Cl.may_true (L := L) (H := H) (C := C) (n := 0) ⟨by omega, fun i hi => absurd hi (by omega)⟩)
  go_enter Try.func8, Try.ntmps8
  go_wp2_with fail
  go_loopg [10] 0 (fun k iv wr => iv = .int .i64 0 ∧ wr = w)
  case atStart => exact ⟨rfl, rfl⟩
  case round =>
    obtain ⟨rfl, rfl⟩ := hrel
    go_wp2_with fail
    go_ret
    exact ⟨ret_bool YES.out.symm, Below.refl _ _⟩
theorem rmay_calls (a : Option Addr) (n cap : Nat) (L H C : Nat → Int) (w : World) (h : Rs w a n cap L H C) :
    Calls Try.prog 8 #[.slice a n cap] w fun e w' => e = .returned (.bool (Cl.may L H C n)) ∧ Below w.heap.size w w' := by
  rcases Nat.eq_zero_or_pos n with rfl | hn
  · exact rmay_zero a cap L H C w
  · obtain ⟨b, off, rfl, hlt, ht⟩ := h.at' hn
    exact rmay_some b off n cap L H C w h.le h.mx hlt ht

set_option maxHeartbeats 1000000 in
theorem rof_some (b off n cap : Nat) (L H C : Nat → Int) (p : Int) (w : World) (hle : n ≤ cap) (hmx : cap ≤ maxLen) (ht : Tr w b off n L H C) :
    Calls Try.prog 9 #[.slice (some ⟨b, off, none⟩) n cap, .int .i64 p] w fun e w' => e = .returned (.int .i64 (Cl.cls L H C p 0 n)) ∧ w' = w := by
  unfold maxLen at hmx
  have T := hid ht
  clear ht
  go_enter Try.func9, Try.ntmps9
  go_wp2_with fail
  go_loopg [8] n (fun k iv wr => ∃ j : Nat, k = n - j ∧ j ≤ n ∧ iv = .int .i64 j ∧ Hid (Cl.cls L H C p j (n - j) = Cl.cls L H C p 0 n) ∧ wr = w)
  case atStart => exact ⟨0, by omega, by omega, rfl, hid rfl, rfl⟩
  case round =>
    obtain ⟨j, rfl, hj, rfl, HC, rfl⟩ := hrel
    by_cases hjn : j < n
    · have hjn' : (j : Int) < n := by omega
      have hjc : (j : Int) < cap := by omega
      have q := T.out
      have q0 := q.lo j hjn
      have q1 := q.hi j hjn
      have q2 := q.cl j hjn
      clear q
      by_cases hin : L j ≤ p ∧ p ≤ H j
      · obtain ⟨i1, i2⟩ := hin
        have V := hid (HC.out.symm.trans (Cl.cls_in (by omega) i1 i2))
        go_wp2_with fail
        go_ret
        exact ⟨ret_int V.out.symm, rfl⟩
      · have V := hid ((Cl.cls_out (L := L) (H := H) (C := C) (p := p) (k := j) (m := n - j) (by omega) hin).symm.trans HC.out)
        have NI := hid hin
        clear hin
        go_wp2_with fail
        all_goals first
          | (exfalso; exact NI.out ⟨by omega, by omega⟩)
          | skip
        all_goals go_roundg (n - (j + 1))
        all_goals first
          | (case measure => omega)
          | exact ⟨j + 1, rfl, by omega, by go_num, V, rfl⟩
    · obtain rfl : j = n := by omega
      have V := hid (HC.out.symm.trans (show _ = (0 : Int) by rw [Nat.sub_self]; rfl))
      go_wp2_with fail
      go_ret
      exact ⟨ret_int V.out.symm, rfl⟩

set_option maxHeartbeats 1000000 in
theorem rof_zero (a : Option Addr) (cap : Nat) (L H C : Nat → Int) (p : Int) (w : World) :
    Calls Try.prog 9 #[.slice a 0 cap, .int .i64 p] w fun e w' => e = .returned (.int .i64 (Cl.cls L H C p 0 0)) ∧ w' = w := by
  go_enter Try.func9, Try.ntmps9
  go_wp2_with fail
  go_loopg [8] 0 (fun k iv wr => iv = .int .i64 0 ∧ wr = w)
  case atStart => exact ⟨rfl, rfl⟩
  case round =>
    obtain ⟨rfl, rfl⟩ := hrel
    go_wp2_with fail
    go_ret
    exact ⟨rfl, rfl⟩
theorem rof_calls (a : Option Addr) (n cap : Nat) (L H C : Nat → Int) (p : Int) (w : World) (h : Rs w a n cap L H C) :
    Calls Try.prog 9 #[.slice a n cap, .int .i64 p] w fun e w' => e = .returned (.int .i64 (Cl.cls L H C p 0 n)) ∧ w' = w := by
  rcases Nat.eq_zero_or_pos n with rfl | hn
  · exact rof_zero a cap L H C p w
  · obtain ⟨b, off, rfl, _, ht⟩ := h.at' hn
    exact rof_some b off n cap L H C p w h.le h.mx ht
end Go.Proofs.Ytedapokahgokgaa
