/-
  The walk of package utf's join.
-/
import Derived.Test.YtaejoleijmihhaaUtfW2
namespace Go.Proofs.Ytaejoleijmihhaa
open Go.RowKit
set_option linter.unusedVariables false

theorem Utf.jn_step (p : Int) (f : Nat → Int) (k : Nat) (h0 : 0 ≤ Utf.jn p f k) (h1 : Utf.jn p f k ≤ 67108863) :
    bits .or .i64 (Utf.jn p f k * 64) (f (k + 1) % 64) = Utf.jn p f (k + 1) := by
  rw [Utf.i64_or64 _ _ (by omega) (by omega) (by omega) (by omega) (by omega)]
  show _ = 64 * Utf.jn p f k + f (k + 1) % 64
  omega

set_option maxHeartbeats 400000 in
theorem join_calls (b off n cap : Nat) (f : Nat → Int) (w : World) (h1 : 1 ≤ n) (h4 : n ≤ 4) (hcap : n ≤ cap) (hm : cap ≤ maxLen) (hb : Bs w b off n f) :
    Calls Try.prog 26 #[.slice (some ⟨b, off, none⟩) n cap] w fun e w' => e = .returned (.int .i64 (Utf.jn (Utf.p0 n (f 0)) f (n - 1))) ∧ w' = w := by
  obtain ⟨hc, hz⟩ := hb
  unfold maxLen at hm
  have hz0 := hz 0
  have hc0 := hc 0 (by omega)
  simp only [Nat.add_zero] at hc0
  have hpb := Utf.p0_bd n (f 0) (by omega) (by omega)
  have hjb := Utf.jn_bd _ f hpb.1 hpb.2
  obtain rfl | rfl | rfl | rfl : n = 1 ∨ n = 2 ∨ n = 3 ∨ n = 4 := by omega
  · by_cases hcap1 : cap = 1
    all_goals
      go_enter Try.func26, Try.ntmps26
      go_wp2
      refine wp_loop_rounds 1 ?_
      rw [rounds_succ]
      go_wp2
      go_ret
      exact ⟨rfl, rfl⟩
  · go_enter Try.func26, Try.ntmps26
    go_wp2
    go_loop [3, 21] (fun p i => ∃ k : Nat, k ≤ 1 ∧ i = .int .i64 k ∧ p = .int .i64 (Utf.jn (Utf.p0 2 (f 0)) f k)) (fun _ i => 1 - (intOf i).toNat)
    case atStart => exact ⟨0, by omega, rfl, congrArg (Value.int .i64) (Utf.i64_and31 (f 0) (by omega) (by omega))⟩
    case round =>
      obtain ⟨k, hk, rfl, rfl⟩ := hrel
      have hj := hjb k (by omega)
      have hzk := hz (k + 1)
      by_cases hlt : k < 1
      · have hlt' : (k : Int) < 1 := by omega
        have hck := hc (k + 1) (by omega)
        have hck' : w.cell? ⟨b, off + 1 + k, none⟩ = some (.int .u8 (f (k + 1))) := by rw [← hck]; congr 2; omega
        clear hck
        go_wp2
        exact ⟨⟨k + 1, by omega, by go_num, congrArg (Value.int .i64) (Utf.jn_step _ _ k hj.1 hj.2)⟩, by simp [intOf]; omega⟩
      · have hlt' : ¬ (k : Int) < 1 := by omega
        obtain rfl : k = 1 := by omega
        go_wp2
        go_ret
        exact ⟨rfl, rfl⟩
  · go_enter Try.func26, Try.ntmps26
    go_wp2
    go_loop [3, 21] (fun p i => ∃ k : Nat, k ≤ 2 ∧ i = .int .i64 k ∧ p = .int .i64 (Utf.jn (Utf.p0 3 (f 0)) f k)) (fun _ i => 2 - (intOf i).toNat)
    case atStart => exact ⟨0, by omega, rfl, congrArg (Value.int .i64) (Utf.i64_and15 (f 0) (by omega) (by omega))⟩
    case round =>
      obtain ⟨k, hk, rfl, rfl⟩ := hrel
      have hj := hjb k (by omega)
      have hzk := hz (k + 1)
      by_cases hlt : k < 2
      · have hlt' : (k : Int) < 2 := by omega
        have hck := hc (k + 1) (by omega)
        have hck' : w.cell? ⟨b, off + 1 + k, none⟩ = some (.int .u8 (f (k + 1))) := by rw [← hck]; congr 2; omega
        clear hck
        go_wp2
        exact ⟨⟨k + 1, by omega, by go_num, congrArg (Value.int .i64) (Utf.jn_step _ _ k hj.1 hj.2)⟩, by simp [intOf]; omega⟩
      · have hlt' : ¬ (k : Int) < 2 := by omega
        obtain rfl : k = 2 := by omega
        go_wp2
        go_ret
        exact ⟨rfl, rfl⟩
  · go_enter Try.func26, Try.ntmps26
    go_wp2
    go_loop [3, 21] (fun p i => ∃ k : Nat, k ≤ 3 ∧ i = .int .i64 k ∧ p = .int .i64 (Utf.jn (Utf.p0 4 (f 0)) f k)) (fun _ i => 3 - (intOf i).toNat)
    case atStart => exact ⟨0, by omega, rfl, congrArg (Value.int .i64) (Utf.i64_and7 (f 0) (by omega) (by omega))⟩
    case round =>
      obtain ⟨k, hk, rfl, rfl⟩ := hrel
      have hj := hjb k (by omega)
      have hzk := hz (k + 1)
      by_cases hlt : k < 3
      · have hlt' : (k : Int) < 3 := by omega
        have hck := hc (k + 1) (by omega)
        have hck' : w.cell? ⟨b, off + 1 + k, none⟩ = some (.int .u8 (f (k + 1))) := by rw [← hck]; congr 2; omega
        clear hck
        go_wp2
        exact ⟨⟨k + 1, by omega, by go_num, congrArg (Value.int .i64) (Utf.jn_step _ _ k hj.1 hj.2)⟩, by simp [intOf]; omega⟩
      · have hlt' : ¬ (k : Int) < 3 := by omega
        obtain rfl : k = 3 := by omega
        go_wp2
        go_ret
        exact ⟨rfl, rfl⟩
end Go.Proofs.Ytaejoleijmihhaa
