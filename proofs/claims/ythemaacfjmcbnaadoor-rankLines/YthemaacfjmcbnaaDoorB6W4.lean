/-
  Walks of package base64's signsOf.
-/
import Derived.Test.YthemaacfjmcbnaaDoorB6W3
import Derived.Test.YthemaacfjmcbnaaDoorB6MathB
namespace Go.Proofs.YthemaacfjmcbnaaDoor
open Go.RowKit
set_option linter.unusedVariables false

namespace B6
/-- The j-th sign where k ones are laid. -/
def st (a b c : Int) (k j : Nat) : Int := if j < k then sgn (six j a b c) else 61
theorem st_one (a b c : Int) (m j : Nat) : st a b c (m + 1) j = one j m a b c := by
  unfold st one
  by_cases h : j ≤ m
  · rw [if_pos (by omega), if_pos h]
  · rw [if_neg (by omega), if_neg h]
end B6

theorem al4 {W : World} {t : TypeId} {x0 x1 x2 x3 y0 y1 y2 y3 : Int} (h0 : x0 = y0) (h1 : x1 = y1) (h2 : x2 = y2) (h3 : x3 = y3) : W.alloc (.cells #[.int .u8 x0, .int .u8 x1, .int .u8 x2, .int .u8 x3] t) = W.alloc (.cells #[.int .u8 y0, .int .u8 y1, .int .u8 y2, .int .u8 y3] t) := by
  rw [h0, h1, h2, h3]

set_option maxRecDepth 100000 in
set_option maxHeartbeats 1600000 in
theorem signsOf_calls (a b c : Int) (m : Nat) (ha : 0 ≤ a ∧ a ≤ 255) (hb : 0 ≤ b ∧ b ≤ 255) (hc : 0 ≤ c ∧ c ≤ 255) (hm1 : 1 ≤ m) (hm3 : m ≤ 3) (w : World) :
    Calls Tryd.prog 37 #[.agg #[.int .u8 a, .int .u8 b, .int .u8 c], .int .i64 m] w fun e w' =>
      e = .returned (.agg #[.int .u8 (B6.one 0 m a b c), .int .u8 (B6.one 1 m a b c), .int .u8 (B6.one 2 m a b c), .int .u8 (B6.one 3 m a b c)]) ∧ Below w.heap.size w w' := by
  have or1 := Utf.i64_join 16 (a * 65536) (b * 256) (by omega) (by omega) (by omega) (by show b * 256 < 65536; omega) (by omega) (by show a * 65536 % 65536 = 0; omega)
  have or2 := Utf.i64_join 8 (a * 65536 + b * 256) c (by omega) (by omega) (by omega) (by show c < 256; omega) (by omega) (by show (a * 65536 + b * 256) % 256 = 0; omega)
  go_enter Tryd.func37, Tryd.ntmps37
  go_wp2_with fail
  go_loopg [24] 4 (fun r i wr => ∃ k : Nat, k ≤ m + 1 ∧ r = 4 - k ∧ i = .int .i64 k ∧ wr = ((w.alloc (.cells #[.int .u8 a, .int .u8 b, .int .u8 c] 71)).alloc (.cells #[.int .u8 0, .int .u8 0, .int .u8 0, .int .u8 0] 72)).alloc (.cells #[.int .u8 (B6.st a b c k 0), .int .u8 (B6.st a b c k 1), .int .u8 (B6.st a b c k 2), .int .u8 (B6.st a b c k 3)] 72))
  case atStart => exact ⟨0, by omega, rfl, rfl, rfl⟩
  case round =>
    obtain ⟨k, hk, rfl, rfl, rfl⟩ := hrel
    by_cases hk4 : k < m + 1
    · have hk4' : (k : Int) < (m : Int) + 1 := by omega
      obtain rfl | rfl | rfl | rfl : k = 0 ∨ k = 1 ∨ k = 2 ∨ k = 3 := by omega
      · obtain ⟨v, hv⟩ : ∃ v : Nat, B6.six 0 a b c = v := Int.eq_ofNat_of_zero_le (B6.six_bd 0 ha hb hc).1
        have hv63 := (B6.six_bd 0 ha hb hc).2
        rw [hv] at hv63
        have hand := Utf.i64_and63 ((a * 65536 + b * 256 + c) / 262144) (by omega) (by omega)
        rw [show ((a * 65536 + b * 256 + c) / 262144) % 64 = v by rw [B6.six0] at hv; omega] at hand
        have HV := hid hv
        clear hv
        have hv0 : (0 : Int) ≤ v := by omega
        have hv1 : (v : Int) < 64 := by omega
        go_wp2_with fail
        go_roundg (4 - 1)
        case measure => omega
        case rel => exact ⟨1, by omega, rfl, rfl, al4 ((signs_get v (by omega)).trans (by rw [← HV.out]; rfl)) rfl rfl rfl⟩
      · obtain ⟨v, hv⟩ : ∃ v : Nat, B6.six 1 a b c = v := Int.eq_ofNat_of_zero_le (B6.six_bd 1 ha hb hc).1
        have hv63 := (B6.six_bd 1 ha hb hc).2
        rw [hv] at hv63
        have hand := Utf.i64_and63 ((a * 65536 + b * 256 + c) / 4096) (by omega) (by omega)
        rw [show ((a * 65536 + b * 256 + c) / 4096) % 64 = v by rw [B6.six1] at hv; omega] at hand
        have HV := hid hv
        clear hv
        have hv0 : (0 : Int) ≤ v := by omega
        have hv1 : (v : Int) < 64 := by omega
        go_wp2_with fail
        go_roundg (4 - 2)
        case measure => omega
        case rel => exact ⟨2, by omega, rfl, rfl, al4 rfl ((signs_get v (by omega)).trans (by rw [← HV.out]; rfl)) rfl rfl⟩
      · obtain ⟨v, hv⟩ : ∃ v : Nat, B6.six 2 a b c = v := Int.eq_ofNat_of_zero_le (B6.six_bd 2 ha hb hc).1
        have hv63 := (B6.six_bd 2 ha hb hc).2
        rw [hv] at hv63
        have hand := Utf.i64_and63 ((a * 65536 + b * 256 + c) / 64) (by omega) (by omega)
        rw [show ((a * 65536 + b * 256 + c) / 64) % 64 = v by rw [B6.six2] at hv; omega] at hand
        have HV := hid hv
        clear hv
        have hv0 : (0 : Int) ≤ v := by omega
        have hv1 : (v : Int) < 64 := by omega
        go_wp2_with fail
        go_roundg (4 - 3)
        case measure => omega
        case rel => exact ⟨3, by omega, rfl, rfl, al4 rfl rfl ((signs_get v (by omega)).trans (by rw [← HV.out]; rfl)) rfl⟩
      · obtain ⟨v, hv⟩ : ∃ v : Nat, B6.six 3 a b c = v := Int.eq_ofNat_of_zero_le (B6.six_bd 3 ha hb hc).1
        have hv63 := (B6.six_bd 3 ha hb hc).2
        rw [hv] at hv63
        have hand := Utf.i64_and63 ((a * 65536 + b * 256 + c)) (by omega) (by omega)
        rw [show ((a * 65536 + b * 256 + c)) % 64 = v by rw [B6.six3] at hv; omega] at hand
        have HV := hid hv
        clear hv
        have hv0 : (0 : Int) ≤ v := by omega
        have hv1 : (v : Int) < 64 := by omega
        go_wp2_with fail
        go_roundg (4 - 4)
        case measure => omega
        case rel => exact ⟨4, by omega, rfl, rfl, al4 rfl rfl rfl ((signs_get v (by omega)).trans (by rw [← HV.out]; rfl))⟩
    · obtain rfl : k = m + 1 := by omega
      simp only [B6.st_one]
      go_wp2_with fail
      refine bodyPost_ret (v := .agg #[.int .u8 (B6.one 0 m a b c), .int .u8 (B6.one 1 m a b c), .int .u8 (B6.one 2 m a b c), .int .u8 (B6.one 3 m a b c)]) (by simp [results, Tryd.results37, go_sem]) rfl ⟨rfl, ?_⟩
      exact (((Below.refl _ _).alloc (Nat.le_refl _) _).alloc (by simp) _).alloc (by simp; omega) _
end Go.Proofs.YthemaacfjmcbnaaDoor
