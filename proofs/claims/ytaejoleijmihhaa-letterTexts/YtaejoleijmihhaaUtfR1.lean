/-
  Walks of the reference's functions on strings: bits.
-/
import Derived.Test.YtaejoleijmihhaaUtfW1
import Derived.Test.YtaejoleijmihhaaSt
namespace Go.Proofs.Ytaejoleijmihhaa
open Go.RowKit
set_option linter.unusedVariables false

theorem Utf.tail_snoc {f : Nat → Int} {k : Nat} (hr : ∀ j, 1 ≤ j → j < k → Utf.tail f j) (h : Utf.tail f k) : ∀ j, 1 ≤ j → j < k + 1 → Utf.tail f j := fun j a b => by
  by_cases e : j = k
  · subst e; exact h
  · exact hr j a (by omega)

set_option maxHeartbeats 400000 in
theorem bits_calls (s : ByteArray) (m n : Nat) (f : Nat → Int) (w : World) (h1 : 1 ≤ n) (h4 : n ≤ 4) (hnm : n ≤ m) (hS : St s m f) (hl : m ≤ maxLen) :
    Calls Try.prog 31 #[.string s, .int .i64 n] w fun e w' => (∃ r : Int, e = .returned (.int .i64 r) ∧ Utf.BR f n r) ∧ w' = w := by
  obtain ⟨hsz, hget, hz⟩ := hS
  unfold maxLen at hl
  have hsz' : (0 : Int) < s.size := by omega
  have hz0 := hz 0
  have hjb : ∀ B : Int, 0 ≤ B → B ≤ 255 → ∀ k, k ≤ 3 → -134217728 ≤ Utf.jr (f 0 - B) f k ∧ Utf.jr (f 0 - B) f k ≤ 134217728 := fun B b0 b1 => Utf.jr_bd _ f (by omega) (by omega) hz
  obtain rfl | rfl | rfl | rfl : n = 1 ∨ n = 2 ∨ n = 3 ∨ n = 4 := by omega
  · go_enter Try.func31, Try.ntmps31
    go_wp2
    go_ret
    exact ⟨⟨f 0, rfl, Or.inr ⟨fun j a b => absurd b (by omega), by simp [Utf.base, Utf.jr]⟩⟩, rfl⟩
  · go_enter Try.func31, Try.ntmps31
    go_wp2
    go_loop [6, 7] (fun p i => ∃ k : Nat, k ≤ 1 ∧ i = .int .i64 ((k + 1 : Nat) : Int) ∧ p = .int .i64 (Utf.jr (f 0 - 192) f k) ∧ ∀ j, 1 ≤ j → j < k + 1 → Utf.tail f j) (fun _ i => 2 - (intOf i).toNat)
    case atStart => exact ⟨0, by omega, rfl, rfl, fun j a b => absurd b (by omega)⟩
    case round =>
      obtain ⟨k, hk, rfl, rfl, hrel⟩ := hrel
      have HR := hid hrel
      clear hrel
      have hj := hjb 192 (by omega) (by omega) k (by omega)
      have hzk := hz (k + 1)
      by_cases hlt : k < 1
      · have hlt' : ((k + 1 : Nat) : Int) < (2 : Nat) := by omega
        have hlt2 : ((k + 1 : Nat) : Int) < s.size := by omega
        go_wp2
        · go_ret
          exact ⟨⟨-1, rfl, Or.inl ⟨⟨k + 1, by omega, by omega, fun t => by have := t.1; have := t.2; omega⟩, rfl⟩⟩, rfl⟩
        · go_round
          case rel => exact ⟨_, _, _, ⟨k + 1, by omega, by go_num, by simp only [Utf.jr], Utf.tail_snoc HR.out ⟨by omega, by omega⟩⟩, rfl, rfl, rfl⟩
          case measure => simp [intOf]; omega
        · go_ret
          exact ⟨⟨-1, rfl, Or.inl ⟨⟨k + 1, by omega, by omega, fun t => by have := t.1; have := t.2; omega⟩, rfl⟩⟩, rfl⟩
      · have hlt' : ¬ ((k + 1 : Nat) : Int) < (2 : Nat) := by omega
        obtain rfl : k = 1 := by omega
        go_wp2
        go_ret
        exact ⟨⟨_, rfl, Or.inr ⟨HR.out, rfl⟩⟩, rfl⟩
  · go_enter Try.func31, Try.ntmps31
    go_wp2
    go_loop [6, 7] (fun p i => ∃ k : Nat, k ≤ 2 ∧ i = .int .i64 ((k + 1 : Nat) : Int) ∧ p = .int .i64 (Utf.jr (f 0 - 224) f k) ∧ ∀ j, 1 ≤ j → j < k + 1 → Utf.tail f j) (fun _ i => 3 - (intOf i).toNat)
    case atStart => exact ⟨0, by omega, rfl, rfl, fun j a b => absurd b (by omega)⟩
    case round =>
      obtain ⟨k, hk, rfl, rfl, hrel⟩ := hrel
      have HR := hid hrel
      clear hrel
      have hj := hjb 224 (by omega) (by omega) k (by omega)
      have hzk := hz (k + 1)
      by_cases hlt : k < 2
      · have hlt' : ((k + 1 : Nat) : Int) < (3 : Nat) := by omega
        have hlt2 : ((k + 1 : Nat) : Int) < s.size := by omega
        go_wp2
        · go_ret
          exact ⟨⟨-1, rfl, Or.inl ⟨⟨k + 1, by omega, by omega, fun t => by have := t.1; have := t.2; omega⟩, rfl⟩⟩, rfl⟩
        · go_round
          case rel => exact ⟨_, _, _, ⟨k + 1, by omega, by go_num, by simp only [Utf.jr], Utf.tail_snoc HR.out ⟨by omega, by omega⟩⟩, rfl, rfl, rfl⟩
          case measure => simp [intOf]; omega
        · go_ret
          exact ⟨⟨-1, rfl, Or.inl ⟨⟨k + 1, by omega, by omega, fun t => by have := t.1; have := t.2; omega⟩, rfl⟩⟩, rfl⟩
      · have hlt' : ¬ ((k + 1 : Nat) : Int) < (3 : Nat) := by omega
        obtain rfl : k = 2 := by omega
        go_wp2
        go_ret
        exact ⟨⟨_, rfl, Or.inr ⟨HR.out, rfl⟩⟩, rfl⟩
  · go_enter Try.func31, Try.ntmps31
    go_wp2
    go_loop [6, 7] (fun p i => ∃ k : Nat, k ≤ 3 ∧ i = .int .i64 ((k + 1 : Nat) : Int) ∧ p = .int .i64 (Utf.jr (f 0 - 240) f k) ∧ ∀ j, 1 ≤ j → j < k + 1 → Utf.tail f j) (fun _ i => 4 - (intOf i).toNat)
    case atStart => exact ⟨0, by omega, rfl, rfl, fun j a b => absurd b (by omega)⟩
    case round =>
      obtain ⟨k, hk, rfl, rfl, hrel⟩ := hrel
      have HR := hid hrel
      clear hrel
      have hj := hjb 240 (by omega) (by omega) k (by omega)
      have hzk := hz (k + 1)
      by_cases hlt : k < 3
      · have hlt' : ((k + 1 : Nat) : Int) < (4 : Nat) := by omega
        have hlt2 : ((k + 1 : Nat) : Int) < s.size := by omega
        go_wp2
        · go_ret
          exact ⟨⟨-1, rfl, Or.inl ⟨⟨k + 1, by omega, by omega, fun t => by have := t.1; have := t.2; omega⟩, rfl⟩⟩, rfl⟩
        · go_round
          case rel => exact ⟨_, _, _, ⟨k + 1, by omega, by go_num, by simp only [Utf.jr], Utf.tail_snoc HR.out ⟨by omega, by omega⟩⟩, rfl, rfl, rfl⟩
          case measure => simp [intOf]; omega
        · go_ret
          exact ⟨⟨-1, rfl, Or.inl ⟨⟨k + 1, by omega, by omega, fun t => by have := t.1; have := t.2; omega⟩, rfl⟩⟩, rfl⟩
      · have hlt' : ¬ ((k + 1 : Nat) : Int) < (4 : Nat) := by omega
        obtain rfl : k = 3 := by omega
        go_wp2
        go_ret
        exact ⟨⟨_, rfl, Or.inr ⟨HR.out, rfl⟩⟩, rfl⟩
end Go.Proofs.Ytaejoleijmihhaa
