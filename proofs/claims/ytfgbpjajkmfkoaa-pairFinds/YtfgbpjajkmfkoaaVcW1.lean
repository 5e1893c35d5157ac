/-
  Walks of vocab.Bytes, Name, ID, Of, isEmpty, maySign, mayName, mayNumber; of cmp.Compare at int.
-/
import Derived.Test.YtfgbpjajkmfkoaaVcMath
import Derived.Test.YtfgbpjajkmfkoaaChecked
import Derived.Deep.LoopGhost
namespace Go.Proofs.Ytfgbpjajkmfkoaa
open Go.RowKit
set_option linter.unusedVariables false


theorem maySign_calls (k : Int) (w : World) : Calls Try.prog 56 #[.int .u8 k] w fun e w' => Says e (Vc.SignOk k) ∧ w' = w := by
  by_cases h0 : 97 ≤ k ∧ k ≤ 122
  · obtain ⟨a, b⟩ := h0
    go_enter Try.func56, Try.ntmps56
    go_wp2_with fail
    go_ret
    exact ⟨Says.yes (.inl ⟨a, b⟩), rfl⟩
  · by_cases h1 : 48 ≤ k ∧ k ≤ 57
    · obtain ⟨a, b⟩ := h1
      have d1 : decide ((97 : Int) ≤ k) = false := decide_eq_false (by omega)
      have d2 : ¬ (97 : Int) ≤ k := by omega
      go_enter Try.func56, Try.ntmps56
      go_wp2_with fail
      go_ret
      exact ⟨Says.yes (.inr (.inl ⟨a, b⟩)), rfl⟩
    · by_cases h2 : k = 95
      · subst h2
        go_enter Try.func56, Try.ntmps56
        go_wp2_with fail
        go_ret
        exact ⟨Says.yes (.inr (.inr rfl)), rfl⟩
      · have HN := hid (show ¬ Vc.SignOk k from fun h => by rcases h with h | h | h; exact h0 h; exact h1 h; exact h2 h)
        have d5 : (k == 95) = false := by simpa using h2
        by_cases q0 : 97 ≤ k
        · have q1 : ¬ k ≤ 122 := by omega
          have q2 : ¬ k ≤ 57 := by omega
          have q3 : (48 : Int) ≤ k := by omega
          have d2 : decide (k ≤ (122 : Int)) = false := decide_eq_false q1
          have d3 : decide (k ≤ (57 : Int)) = false := decide_eq_false q2
          clear h0 h1
          go_enter Try.func56, Try.ntmps56
          go_wp2_with fail
          go_ret
          exact ⟨Says.no HN.out, rfl⟩
        · have d2 : decide ((97 : Int) ≤ k) = false := decide_eq_false q0
          by_cases q3 : (48 : Int) ≤ k
          · have q2 : ¬ k ≤ 57 := by omega
            have d3 : decide (k ≤ (57 : Int)) = false := decide_eq_false q2
            clear h0 h1
            go_enter Try.func56, Try.ntmps56
            go_wp2_with fail
            go_ret
            exact ⟨Says.no HN.out, rfl⟩
          · have d3 : decide ((48 : Int) ≤ k) = false := decide_eq_false q3
            clear h0 h1
            go_enter Try.func56, Try.ntmps56
            go_wp2_with fail
            go_ret
            exact ⟨Says.no HN.out, rfl⟩

theorem isNaN_calls (k : Int) (w : World) : Calls Try.prog 58 #[.int .i64 k] w fun e w' => e = .returned (.bool false) ∧ w' = w := by
  go_enter Try.func58, Try.ntmps58
  go_wp2_with fail
  go_ret
  simp
theorem cmpInt_calls (x y : Int) (w : World) : Calls Try.prog 54 #[.int .i64 x, .int .i64 y] w fun e w' => e = .returned (.int .i64 (Vc.cmpI x y)) ∧ w' = w := by
  by_cases h1 : x < y
  · have HE := hid (show Vc.cmpI x y = -1 by unfold Vc.cmpI; rw [if_pos h1])
    go_enter Try.func54, Try.ntmps54
    go_wp2_with (go_at_call 58; refine (isNaN_calls _ _).mono ?_; rintro e w2 ⟨rfl, rfl⟩)
    go_ret
    exact ⟨by rw [HE.out]; rfl, rfl⟩
  · have d1 : decide (x < y) = false := decide_eq_false h1
    by_cases h2 : y < x
    · have HE := hid (show Vc.cmpI x y = 1 by unfold Vc.cmpI; rw [if_neg h1, if_pos h2])
      go_enter Try.func54, Try.ntmps54
      go_wp2_with (go_at_call 58; refine (isNaN_calls _ _).mono ?_; rintro e w2 ⟨rfl, rfl⟩)
      go_ret
      exact ⟨by rw [HE.out]; rfl, rfl⟩
    · have HE := hid (show Vc.cmpI x y = 0 by unfold Vc.cmpI; rw [if_neg h1, if_neg h2])
      have d2 : decide (y < x) = false := decide_eq_false h2
      go_enter Try.func54, Try.ntmps54
      go_wp2_with (go_at_call 58; refine (isNaN_calls _ _).mono ?_; rintro e w2 ⟨rfl, rfl⟩)
      go_ret
      exact ⟨by rw [HE.out]; rfl, rfl⟩

/-- What vocab.Bytes answers. -/
def ByOut (ts : Vc.Toks) (k : Int) (e : Ending) : Prop :=
  (Vc.Is ts k ∧ e = .returned (.tuple #[.string (Vc.tok ts k), .bool true])) ∨ (¬ Vc.Is ts k ∧ e = .returned (.tuple #[.string ⟨#[]⟩, .bool false]))

set_option maxHeartbeats 800000 in
theorem bytes_calls {w : World} {a am az : Option Addr} {n c nm cm ns cs : Nat} {ts : Vc.Toks} (V : Ts w a n c ts) (k : Int) :
    Calls Try.prog 55 #[.agg #[.slice a n c, .slice am nm cm, .slice az ns cs], .int .i64 k] w fun e w' => ByOut ts k e ∧ Below w.heap.size w w' := by
  have hl := V.len
  have B0 := hid ((Below.refl w.heap.size w).alloc (Nat.le_refl _) (.cells #[.slice a n c, .slice am nm cm, .slice az ns cs] 26))
  have T0 := hid (V.below B0.out)
  clear V
  by_cases h0 : k < 0
  · have HN := hid (show ¬ Vc.Is ts k from fun h => by have := h.1; omega)
    go_enter Try.func55, Try.ntmps55
    go_wp2_with fail
    go_ret2
    exact ⟨.inr ⟨HN.out, rfl⟩, B0.out⟩
  · have d0 : decide (k < (0 : Int)) = false := decide_eq_false h0
    by_cases h1 : (n : Int) ≤ k
    · have HN := hid (show ¬ Vc.Is ts k from fun h => by have := h.2.1; omega)
      go_enter Try.func55, Try.ntmps55
      go_wp2_with fail
      go_ret2
      exact ⟨.inr ⟨HN.out, rfl⟩, B0.out⟩
    · have d1 : decide ((n : Int) ≤ k) = false := decide_eq_false h1
      obtain ⟨j, rfl⟩ : ∃ j : Nat, k = j := ⟨k.toNat, by omega⟩
      have hj : j < n := by omega
      have hj0 : (0 : Int) ≤ j := by omega
      have hj1 : (j : Int) < n := by omega
      have d1 : ¬ n ≤ j := by omega
      obtain ⟨b, off, rfl, hbl, hc⟩ := T0.out.at' (by omega)
      have q1 := hc j hj
      obtain ⟨t, ht⟩ : ∃ t, at_ ts j = t := ⟨_, rfl⟩
      rw [ht] at q1
      have HT := hid ht
      clear hc ht
      by_cases hz : t.size = 0
      · have e1 := (ba_empty hz).1
        have e2 := (ba_empty hz).2
        have HN := hid (show ¬ Vc.Is ts j from fun h => h.2.2 (by rw [Int.toNat_natCast, HT.out]; exact hz))
        clear hz
        go_enter Try.func55, Try.ntmps55
        go_wp2_with fail
        go_ret2
        exact ⟨.inr ⟨HN.out, rfl⟩, B0.out⟩
      · have e1 := (ba_full hz).1
        have e2 := (ba_full hz).2
        have HN := hid (show Vc.Is ts j from ⟨by omega, by omega, by rw [Int.toNat_natCast, HT.out]; exact hz⟩)
        have HK := hid (show Vc.tok ts j = t by unfold Vc.tok; rw [Int.toNat_natCast]; exact HT.out)
        clear hz
        go_enter Try.func55, Try.ntmps55
        go_wp2_with fail
        go_ret2
        exact ⟨.inl ⟨HN.out, by rw [HK.out]; rfl⟩, B0.out⟩
end Go.Proofs.Ytfgbpjajkmfkoaa
