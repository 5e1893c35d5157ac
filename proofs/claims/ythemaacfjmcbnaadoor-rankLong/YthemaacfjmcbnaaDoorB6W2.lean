/-
  Walks of package base64's firstPart and bytesOf.
-/
import Derived.Test.YthemaacfjmcbnaaDoorB6W1
import Derived.Deep.QuietTactic
import Derived.BigQuiet
import Derived.Deep.LoopGhost
namespace Go.Proofs.YthemaacfjmcbnaaDoor
open Go.RowKit
set_option linter.unusedVariables false

theorem bitsOf_val (c v : Int) (hc : 0 ≤ c ∧ c ≤ 255) (hv : Hid (B6.val c = v)) (w : World) :
    Calls Tryd.prog 47 #[.int .u8 c] w fun e w' => e = .returned (.int .i64 v) ∧ w' = w := by
  rw [← hv.out]; exact bitsOf_calls c hc.1 hc.2 w

set_option maxRecDepth 100000 in
set_option maxHeartbeats 1600000 in
theorem firstPart_calls (a b c d : Int) (ha : 0 ≤ a ∧ a ≤ 255) (hb : 0 ≤ b ∧ b ≤ 255) (hc : 0 ≤ c ∧ c ≤ 255) (hd : 0 ≤ d ∧ d ≤ 255) (w : World) :
    Calls Tryd.prog 41 #[.agg #[.int .u8 a, .int .u8 b, .int .u8 c, .int .u8 d]] w fun e w' => e = .returned (.int .i64 (B6.fp a b c d : Nat)) ∧ Below w.heap.size w w' := by
  obtain ⟨va, hva⟩ : ∃ v, B6.val a = v := ⟨_, rfl⟩
  obtain ⟨vb, hvb⟩ : ∃ v, B6.val b = v := ⟨_, rfl⟩
  obtain ⟨vc, hvc⟩ : ∃ v, B6.val c = v := ⟨_, rfl⟩
  obtain ⟨vd, hvd⟩ : ∃ v, B6.val d = v := ⟨_, rfl⟩
  have ba := B6.val_bd a
  have bb := B6.val_bd b
  have bc := B6.val_bd c
  have bd := B6.val_bd d
  rw [hva] at ba
  rw [hvb] at bb
  rw [hvc] at bc
  rw [hvd] at bd
  have HA := hid hva
  have HB := hid hvb
  have HC := hid hvc
  have HD := hid hvd
  have hbel := hid ((Below.refl w.heap.size w).alloc (Nat.le_refl _) (.cells #[.int .u8 a, .int .u8 b, .int .u8 c, .int .u8 d] 72))
  clear hva hvb hvc hvd
  go_enter Tryd.func41, Tryd.ntmps41
  go_wp2_with fail
  have q0 : (w.alloc (.cells #[.int .u8 a, .int .u8 b, .int .u8 c, .int .u8 d] 72)).cell? ⟨w.heap.size, 0, none⟩ = some (.int .u8 a) := by simp
  have q1 : (w.alloc (.cells #[.int .u8 a, .int .u8 b, .int .u8 c, .int .u8 d] 72)).cell? ⟨w.heap.size, 1, none⟩ = some (.int .u8 b) := by simp
  have q2 : (w.alloc (.cells #[.int .u8 a, .int .u8 b, .int .u8 c, .int .u8 d] 72)).cell? ⟨w.heap.size, 2, none⟩ = some (.int .u8 c) := by simp
  have q3 : (w.alloc (.cells #[.int .u8 a, .int .u8 b, .int .u8 c, .int .u8 d] 72)).cell? ⟨w.heap.size, 3, none⟩ = some (.int .u8 d) := by simp
  generalize w.alloc (.cells #[.int .u8 a, .int .u8 b, .int .u8 c, .int .u8 d] 72) = w0 at *
  go_quiet (first | exact Calls.quiet_of_same (bitsOf_val b vb hb HB _) | exact Calls.quiet_of_same (bitsOf_val c vc hc HC _))
  have hbel := hid (below_drewN hbel.out nq)
  have q0 : (w0.drewN nq).cell? ⟨w.heap.size, 0, none⟩ = some (.int .u8 a) := q0
  have q1 : (w0.drewN nq).cell? ⟨w.heap.size, 1, none⟩ = some (.int .u8 b) := q1
  have q2 : (w0.drewN nq).cell? ⟨w.heap.size, 2, none⟩ = some (.int .u8 c) := q2
  have q3 : (w0.drewN nq).cell? ⟨w.heap.size, 3, none⟩ = some (.int .u8 d) := q3
  generalize w0.drewN nq = w1 at *
  go_wp2_with fail
  refine (bitsOf_val a va ha HA _).mono ?_
  rintro e w1 ⟨rfl, rfl⟩
  by_cases h0 : va < 0
  · go_wp2_with fail
    go_ret
    exact ⟨ret_int (by unfold B6.fp; (try rw [HA.out]); (try rw [HB.out]); (try rw [HC.out]); (try rw [HD.out]); (repeat (first | rw [if_pos (by omega)] | rw [if_neg (by omega)])); all_goals rfl), hbel.out⟩
  by_cases h1 : vb < 0
  · go_wp2_with fail
    go_ret
    exact ⟨ret_int (by unfold B6.fp; (try rw [HA.out]); (try rw [HB.out]); (try rw [HC.out]); (try rw [HD.out]); (repeat (first | rw [if_pos (by omega)] | rw [if_neg (by omega)])); all_goals rfl), hbel.out⟩
  have hand := Utf.i64_and15 vb (by omega) (by omega)
  by_cases h2 : c = 61
  · subst h2
    by_cases h3 : vb % 16 = 0
    · have h3' : (vb % 16 == 0) = true := by simpa using h3
      by_cases h4 : d = 61
      · subst h4
        go_wp2_with fail
        go_ret
        exact ⟨ret_int (by unfold B6.fp; (try rw [HA.out]); (try rw [HB.out]); (try rw [HC.out]); (try rw [HD.out]); (repeat (first | rw [if_pos (by omega)] | rw [if_neg (by omega)])); all_goals rfl), hbel.out⟩
      · have h4' : (d == 61) = false := by simpa using h4
        go_wp2_with fail
        go_ret
        exact ⟨ret_int (by unfold B6.fp; (try rw [HA.out]); (try rw [HB.out]); (try rw [HC.out]); (try rw [HD.out]); (repeat (first | rw [if_pos (by omega)] | rw [if_neg (by omega)])); all_goals rfl), hbel.out⟩
    · have h3' : (vb % 16 == 0) = false := by simpa using h3
      have h5 : vc = -1 := by rw [← HC.out]; exact B6.val_pad
      have h5' : vc < 0 := by omega
      go_wp2_with fail
      go_ret
      exact ⟨ret_int (by unfold B6.fp; (try rw [HA.out]); (try rw [HB.out]); (try rw [HC.out]); (try rw [HD.out]); (repeat (first | rw [if_pos (by omega)] | rw [if_neg (by omega)])); all_goals rfl), hbel.out⟩
  · have h2' : (c == 61) = false := by simpa using h2
    by_cases h5 : vc < 0
    · go_wp2_with fail
      go_ret
      exact ⟨ret_int (by unfold B6.fp; (try rw [HA.out]); (try rw [HB.out]); (try rw [HC.out]); (try rw [HD.out]); (repeat (first | rw [if_pos (by omega)] | rw [if_neg (by omega)])); all_goals rfl), hbel.out⟩
    have hand3 : bits .and .i64 vc 3 = vc % 4 := Utf.i64_mask 2 vc (by omega) (by omega) (by decide)
    by_cases h6 : d = 61
    · subst h6
      have h7 : vd = -1 := by rw [← HD.out]; exact B6.val_pad
      have h7' : vd < 0 := by omega
      by_cases h8 : vc % 4 = 0
      · have h8' : (vc % 4 == 0) = true := by simpa using h8
        go_wp2_with fail
        go_ret
        exact ⟨ret_int (by unfold B6.fp; (try rw [HA.out]); (try rw [HB.out]); (try rw [HC.out]); (try rw [HD.out]); (repeat (first | rw [if_pos (by omega)] | rw [if_neg (by omega)])); all_goals rfl), hbel.out⟩
      · have h8' : (vc % 4 == 0) = false := by simpa using h8
        go_wp2_with fail
        refine (bitsOf_val 61 vd hd HD _).mono ?_
        rintro e w1 ⟨rfl, rfl⟩
        go_wp2_with fail
        go_ret
        exact ⟨ret_int (by unfold B6.fp; (try rw [HA.out]); (try rw [HB.out]); (try rw [HC.out]); (try rw [HD.out]); (repeat (first | rw [if_pos (by omega)] | rw [if_neg (by omega)])); all_goals rfl), hbel.out⟩
    · have h6' : (d == 61) = false := by simpa using h6
      by_cases h7 : vd < 0
      · go_wp2_with fail
        refine (bitsOf_val d vd hd HD _).mono ?_
        rintro e w1 ⟨rfl, rfl⟩
        go_wp2_with fail
        go_ret
        exact ⟨ret_int (by unfold B6.fp; (try rw [HA.out]); (try rw [HB.out]); (try rw [HC.out]); (try rw [HD.out]); (repeat (first | rw [if_pos (by omega)] | rw [if_neg (by omega)])); all_goals rfl), hbel.out⟩
      · go_wp2_with fail
        refine (bitsOf_val d vd hd HD _).mono ?_
        rintro e w1 ⟨rfl, rfl⟩
        go_wp2_with fail
        go_ret
        exact ⟨ret_int (by unfold B6.fp; (try rw [HA.out]); (try rw [HB.out]); (try rw [HC.out]); (try rw [HD.out]); (repeat (first | rw [if_pos (by omega)] | rw [if_neg (by omega)])); all_goals rfl), hbel.out⟩
end Go.Proofs.YthemaacfjmcbnaaDoor
