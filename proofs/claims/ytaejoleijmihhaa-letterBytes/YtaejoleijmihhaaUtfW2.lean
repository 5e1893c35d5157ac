/-
  Walks of package utf's firstPart and join.
-/
import Derived.Test.YtaejoleijmihhaaUtfW1
namespace Go.Proofs.Ytaejoleijmihhaa
open Go.RowKit
set_option linter.unusedVariables false

/-- The n cells from place 'off' of block b on hold the bytes that f tells. -/
def Bs (w : World) (b off n : Nat) (f : Nat → Int) : Prop := (∀ i, i < n → w.cell? ⟨b, off + i, none⟩ = some (.int .u8 (f i))) ∧ ∀ i, 0 ≤ f i ∧ f i ≤ 255

set_option maxHeartbeats 400000 in
theorem firstPart_calls (b off n cap : Nat) (f : Nat → Int) (size : Int) (w : World) (h0 : 0 ≤ size) (h1 : size ≤ 4) (hne : 0 < n) (hl : n ≤ maxLen) (hb : Bs w b off n f) :
    Calls Try.prog 25 #[.slice (some ⟨b, off, none⟩) n cap, .int .i64 size] w fun e w' => (∃ k : Nat, e = .returned (.int .i64 k) ∧ Utf.FP f (min size.toNat n) k) ∧ w' = w := by
  obtain ⟨hc, hz⟩ := hb
  unfold maxLen at hl
  obtain ⟨m, rfl⟩ := Int.eq_ofNat_of_zero_le h0
  rw [Int.toNat_natCast]
  have hc0 := hc 0 hne
  simp only [Nat.add_zero] at hc0
  have hne' : (0 : Int) < n := by omega
  by_cases hA : m ≤ n
  · rw [Nat.min_eq_left hA]
    have hA' : (m : Int) ≤ n := by omega
    go_enter Try.func25, Try.ntmps25
    go_wp2
    go_loop [6] (fun i => ∃ k : Nat, 1 ≤ k ∧ (k ≤ m ∨ k = 1) ∧ i = .int .i64 k ∧ ∀ j, 1 ≤ j → j < k → Utf.okAt f j) (fun i => m - (intOf i).toNat)
    case atStart => exact ⟨1, Nat.le_refl _, Or.inr rfl, rfl, fun j a b => absurd b (by omega)⟩
    case round =>
      obtain ⟨k, hk, hkm, rfl, hrel⟩ := hrel
      have HR := hid hrel
      clear hrel
      by_cases hlt : k < m
      · have hck := hc k (by omega)
        have hlt' : (k : Int) < m := by omega
        have hkl : (k : Int) < n := by omega
        have hzk := hz k
        clear hkm
        by_cases hk1 : k = 1
        · subst hk1
          go_wp2_with (go_at_call 30; refine (secondOf_calls _ _).mono ?_; rintro e w' ⟨rfl, rfl⟩)
          · go_ret
            exact ⟨⟨1, rfl, Utf.fp_stop1 hlt (by omega)⟩, rfl⟩
          · exact ⟨⟨2, by omega, by omega, rfl, Utf.ok_snoc HR.out (Utf.okAt_one.2 (by omega))⟩, by simp [intOf]; omega⟩
          · go_ret
            exact ⟨⟨1, rfl, Utf.fp_stop1 hlt (by omega)⟩, rfl⟩
        · have hk1' : ((k : Int) == 1) = false := by simp; omega
          go_wp2
          · go_ret
            exact ⟨⟨k, rfl, Utf.fp_stop hk hlt hk1 HR.out (by omega)⟩, rfl⟩
          · exact ⟨⟨k + 1, by omega, by omega, by go_num, Utf.ok_snoc HR.out ((Utf.okAt_more hk1).2 (by omega))⟩, by simp [intOf]; omega⟩
          · go_ret
            exact ⟨⟨k, rfl, Utf.fp_stop hk hlt hk1 HR.out (by omega)⟩, rfl⟩
      · have hlt' : ¬ (k : Int) < m := by omega
        go_wp2
        go_ret
        exact ⟨⟨m, rfl, Utf.fp_end (by omega) HR.out⟩, rfl⟩
  · rw [Nat.min_eq_right (by omega)]
    have hA' : (n : Int) < m := by omega
    go_enter Try.func25, Try.ntmps25
    go_wp2
    go_loop [6] (fun i => ∃ k : Nat, 1 ≤ k ∧ (k ≤ n ∨ k = 1) ∧ i = .int .i64 k ∧ ∀ j, 1 ≤ j → j < k → Utf.okAt f j) (fun i => n - (intOf i).toNat)
    case atStart => exact ⟨1, Nat.le_refl _, Or.inr rfl, rfl, fun j a b => absurd b (by omega)⟩
    case round =>
      obtain ⟨k, hk, hkm, rfl, hrel⟩ := hrel
      have HR := hid hrel
      clear hrel
      by_cases hlt : k < n
      · have hck := hc k (by omega)
        have hlt' : (k : Int) < n := by omega
        have hkl : (k : Int) < n := by omega
        have hzk := hz k
        clear hkm
        by_cases hk1 : k = 1
        · subst hk1
          go_wp2_with (go_at_call 30; refine (secondOf_calls _ _).mono ?_; rintro e w' ⟨rfl, rfl⟩)
          · go_ret
            exact ⟨⟨1, rfl, Utf.fp_stop1 hlt (by omega)⟩, rfl⟩
          · exact ⟨⟨2, by omega, by omega, rfl, Utf.ok_snoc HR.out (Utf.okAt_one.2 (by omega))⟩, by simp [intOf]; omega⟩
          · go_ret
            exact ⟨⟨1, rfl, Utf.fp_stop1 hlt (by omega)⟩, rfl⟩
        · have hk1' : ((k : Int) == 1) = false := by simp; omega
          go_wp2
          · go_ret
            exact ⟨⟨k, rfl, Utf.fp_stop hk hlt hk1 HR.out (by omega)⟩, rfl⟩
          · exact ⟨⟨k + 1, by omega, by omega, by go_num, Utf.ok_snoc HR.out ((Utf.okAt_more hk1).2 (by omega))⟩, by simp [intOf]; omega⟩
          · go_ret
            exact ⟨⟨k, rfl, Utf.fp_stop hk hlt hk1 HR.out (by omega)⟩, rfl⟩
      · have hlt' : ¬ (k : Int) < n := by omega
        go_wp2
        go_ret
        exact ⟨⟨n, rfl, Utf.fp_end (by omega) HR.out⟩, rfl⟩
end Go.Proofs.Ytaejoleijmihhaa
