/-
  Walks of the reference's sign, Encode.
-/
import Derived.Test.YthemaacfjmcbnaaDoorSlX
import Derived.Test.YthemaacfjmcbnaaDoorB6R0
import Derived.Test.YthemaacfjmcbnaaDoorB6MathB
import Derived.Test.YthemaacfjmcbnaaDoorSt
import Derived.Deep.LoopGhost
namespace Go.Proofs.YthemaacfjmcbnaaDoor
open Go.RowKit
set_option linter.unusedVariables false

theorem sign_str : ∀ v : Nat, v < 64 → signsB.extract v (v + 1) = str (fun _ => B6.sgn v) 1 := by decide +kernel

theorem sign_calls (v : Nat) (h : v < 64) (w : World) :
    Calls Tryd.prog 25 #[.int .i64 v] w fun e w' => e = .returned (.string (str (fun _ => B6.sgn v) 1)) ∧ w' = w := by
  have h0 : (0 : Int) ≤ v := by omega
  have h1 : (v : Int) + 1 ≤ 64 := by omega
  have h2 : (v : Int) ≤ (v : Int) + 1 := by omega
  have h3 : (0 : Int) ≤ (v : Int) + 1 := by omega
  have hw : IntKind.i64.wrap ((v : Int) + 1) = (v : Int) + 1 := i64_in (by omega) (by omega)
  go_enter Tryd.func25, Tryd.ntmps25
  go_wp2
  go_ret
  exact ⟨congrArg (fun x => Ending.returned (.string x)) (sign_str v h), rfl⟩

namespace B6
/-- Bit q of bytes from place p on. -/
def bt (f : Nat → Int) (n p q : Nat) : Int := z f n (p + q / 8) / 2 ^ (7 - q % 8) % 2
/-- The first i of the k-th six bits. -/
def nb (f : Nat → Int) (n p k : Nat) : Nat → Int
  | 0 => 0
  | i + 1 => 2 * nb f n p k i + bt f n p (6 * k + i)
theorem bt_bd (f : Nat → Int) (n p q : Nat) : 0 ≤ bt f n p q ∧ bt f n p q ≤ 1 := by unfold bt; omega
theorem nb_bd (f : Nat → Int) (n p k : Nat) : ∀ i : Nat, i ≤ 6 → 0 ≤ nb f n p k i ∧ nb f n p k i < 2 ^ i
  | 0, _ => by show (0 : Int) ≤ 0 ∧ (0 : Int) < 1; omega
  | i + 1, h => by
    have q := nb_bd f n p k i (by omega)
    have b := bt_bd f n p (6 * k + i)
    have e : (2 : Int) ^ (i + 1) = 2 ^ i * 2 := Int.pow_succ _ _
    simp only [nb]
    omega
theorem nb_lt (f : Nat → Int) (n p k i : Nat) (h : i ≤ 6) : 0 ≤ nb f n p k i ∧ nb f n p k i < 64 := by
  have q := nb_bd f n p k i h
  have : (2 : Int) ^ i ≤ 64 := by
    obtain rfl | rfl | rfl | rfl | rfl | rfl | rfl : i = 0 ∨ i = 1 ∨ i = 2 ∨ i = 3 ∨ i = 4 ∨ i = 5 ∨ i = 6 := by omega
    all_goals decide
  omega
theorem nb_six {f : Nat → Int} (hf : ∀ i, 0 ≤ f i ∧ f i ≤ 255) (n p k : Nat) (hk : k < 4) : nb f n p k 6 = six k (z f n p) (z f n (p + 1)) (z f n (p + 2)) := by
  have b0 := z_bd (n := n) hf p
  have b1 := z_bd (n := n) hf (p + 1)
  have b2 := z_bd (n := n) hf (p + 2)
  obtain rfl | rfl | rfl | rfl : k = 0 ∨ k = 1 ∨ k = 2 ∨ k = 3 := by omega
  all_goals (simp [nb, bt, six]; omega)
end B6

set_option maxRecDepth 100000 in
set_option maxHeartbeats 3200000 in
theorem rencode_calls (s : ByteArray) (n : Nat) (f : Nat → Int) (w : World) (hn : n ≤ 100000) (hS : St s n f) :
    Calls Tryd.prog 12 #[.string s] w fun e w' => e = .returned (.string (str (B6.encF f n) (B6.encN n))) ∧ w' = w := by
  have HS := hid hS
  obtain ⟨hsz, hget, hbd⟩ := hS
  have HBD := hid hbd
  clear hbd
  have F0 := hid (B6.encF_bd HBD.out n)
  go_enter Tryd.func12, Tryd.ntmps12
  go_wp2_with fail
  go_loopg [3, 4] n (fun r o iv wr => ∃ p g : Nat, Hid (p = 3 * g) ∧ r = n - p ∧ p ≤ n + 2 ∧ iv = .int .i64 p ∧ o = .string (str (B6.encF f n) (4 * g)) ∧ w = wr)
  case atStart => exact ⟨0, 0, hid rfl, by omega, by omega, rfl, rfl, rfl⟩
  case round =>
    obtain ⟨p, g, hp, rfl, hpn, rfl, rfl, rfl⟩ := hrel
    by_cases hlt : p < n
    · have h1 : (p : Int) < n := by omega
      go_wp2_with fail
      go_loopg [3, 5] 4 (fun r o kv wr => ∃ k : Nat, k ≤ 4 ∧ r = 4 - k ∧ kv = .int .i64 k ∧ o = .string (str (B6.encF f n) (4 * g + k)) ∧ w = wr)
      case atStart => exact ⟨0, by omega, rfl, rfl, rfl, rfl⟩
      case round =>
        obtain ⟨k, hk4, rfl, rfl, rfl, rfl⟩ := hrel
        by_cases hk : k < 4
        · have hk' : (k : Int) < 4 := by omega
          go_wp2_with fail
          go_loopg [6, 7, 8] 6 (fun r nv av iv wr => ∃ i : Nat, i ≤ 6 ∧ r = 6 - i ∧ iv = .int .i64 i ∧ nv = .int .i64 (B6.nb f n p k i) ∧ av = .bool (decide (0 < i ∧ p + 6 * k / 8 < n)) ∧ w = wr)
          case atStart => exact ⟨0, by omega, rfl, rfl, rfl, rfl, rfl⟩
          case round =>
            obtain ⟨i, hi6, rfl, rfl, rfl, rfl, rfl⟩ := hrel
            by_cases hi : i < 6
            · have hi' : (i : Int) < 6 := by omega
              obtain ⟨q, hq⟩ : ∃ q : Nat, 6 * k + i = q := ⟨_, rfl⟩
              have hq23 : q ≤ 23 := by omega
              have hqi : 6 * (k : Int) + i = q := by omega
              obtain ⟨y, hy⟩ : ∃ y : Nat, q / 8 = y := ⟨_, rfl⟩
              obtain ⟨x, hx⟩ : ∃ x : Nat, q % 8 = x := ⟨_, rfl⟩
              have hyi : (q : Int) / 8 = y := by omega
              have hxi : (q : Int) % 8 = x := by omega
              have hyt : (q : Int).tdiv 8 = y := by rw [Int.tdiv_eq_ediv_of_nonneg (by omega)]; exact hyi
              have hxt : (q : Int).tmod 8 = x := by rw [Int.tmod_eq_emod_of_nonneg (by omega)]; exact hxi
              have hb := B6.nb_lt f n p k i (by omega)
              have hstep : B6.nb f n p k (i + 1) = 2 * B6.nb f n p k i + B6.z f n (p + y) / 2 ^ (7 - x) % 2 := by
                rw [← hy, ← hx, ← hq]; rfl
              by_cases hin : p + y < n
              · have hin' : (p : Int) + y < n := by omega
                have hin0 : (0 : Int) ≤ (p : Int) + y := by omega
                have hz := B6.z_lt (f := f) hin
                have hbt := B6.bt_bd f n p q
                unfold B6.bt at hbt
                rw [hy, hx, hz] at hbt
                rw [hz] at hstep
                have hdiv : 0 ≤ f (p + y) / 2 ^ (7 - x) := Int.ediv_nonneg (HBD.out _).1 (Int.pow_nonneg (by omega))
                have htm : (f (p + y) / 2 ^ (7 - x)).tmod 2 = f (p + y) / 2 ^ (7 - x) % 2 := Int.tmod_eq_emod_of_nonneg hdiv
                have HSTEP := hid hstep
                have HANY := hid (show decide (0 < i + 1 ∧ p + 6 * k / 8 < n) = true by simp; omega)
                have hcase : f (p + y) / 2 ^ (7 - x) % 2 = 0 ∨ f (p + y) / 2 ^ (7 - x) % 2 = 1 := by omega
                clear hstep hbt hz
                rcases hcase with hc | hc
                · rw [hc] at htm
                  go_wp2_with fail
                  go_roundg (6 - (i + 1))
                  case measure => omega
                  case rel => exact ⟨i + 1, by omega, rfl, by go_num, by rw [HSTEP.out, hc, Int.add_zero], by rw [HANY.out], rfl⟩
                · rw [hc] at htm
                  go_wp2_with fail
                  go_roundg (6 - (i + 1))
                  case measure => omega
                  case rel => exact ⟨i + 1, by omega, rfl, by go_num, by rw [HSTEP.out, hc], by rw [HANY.out], rfl⟩
              · have hin' : ¬ (p : Int) + y < n := by omega
                rw [B6.z_ge (by omega), Int.zero_ediv] at hstep
                have HSTEP := hid hstep
                have HANY := hid (show decide (0 < i + 1 ∧ p + 6 * k / 8 < n) = decide (0 < i ∧ p + 6 * k / 8 < n) by
                  apply decide_eq_decide.2
                  constructor
                  · intro h
                    refine ⟨?_, h.2⟩
                    by_cases e : i = 0
                    · subst e; omega
                    · omega
                  · intro h; exact ⟨by omega, h.2⟩)
                clear hstep
                go_wp2_with fail
                go_roundg (6 - (i + 1))
                case measure => omega
                case rel => exact ⟨i + 1, by omega, rfl, by go_num, by rw [HSTEP.out, show (0 : Int) % 2 = 0 from rfl, Int.add_zero], by rw [HANY.out, Bool.decide_and], rfl⟩
            · obtain rfl : i = 6 := by omega
              have h6 := B6.nb_six HBD.out n p k hk
              have hone := B6.encF_at f n g k hk
              have hbd := B6.nb_lt f n p k 6 (by omega)
              obtain ⟨v, hv⟩ : ∃ v : Nat, B6.nb f n p k 6 = v := Int.eq_ofNat_of_zero_le hbd.1
              rw [hv] at hbd
              by_cases hany : p + 6 * k / 8 < n
              · have HANY := hid (show decide (0 < 6 ∧ p + 6 * k / 8 < n) = true by simp; omega)
                have HE := hid (show str (B6.encF f n) (4 * g + k) ++ str (fun _ => B6.sgn v) 1 = str (B6.encF f n) (4 * g + (k + 1)) from by
                  refine str_snoc F0.out (4 * g + k) _ ?_
                  rw [hone, B6.one_sign (by have := hp.out; omega), ← hv, h6, hp.out])
                obtain ⟨X, hX⟩ : ∃ X, str (B6.encF f n) (4 * g + k) = X := ⟨_, rfl⟩
                obtain ⟨Y, hY⟩ : ∃ Y, str (fun _ => B6.sgn v) 1 = Y := ⟨_, rfl⟩
                have hXs : X.size = 4 * g + k := by rw [← hX]; exact str_size _ _
                have hYs : Y.size = 1 := by rw [← hY]; exact str_size _ _
                have hcat : ¬ 9223372036854775807 < X.size + Y.size := by rw [hXs, hYs]; have := hp.out; omega
                rw [hX, hY] at HE
                have HY := hid hY
                rw [HANY.out, hX, hv]
                clear hXs hYs hX hY h6 hone hv
                go_wp2_with fail
                refine (sign_calls v (by omega) _).mono ?_
                rintro e w ⟨rfl, rfl⟩
                rw [HY.out]
                go_wp2_with fail
                go_roundg (4 - (k + 1))
                case measure => omega
                case rel => exact ⟨k + 1, by omega, rfl, by go_num, by rw [HE.out], rfl⟩
              · have HANY := hid (show decide (0 < 6 ∧ p + 6 * k / 8 < n) = false by simp; omega)
                have HE := hid (show str (B6.encF f n) (4 * g + k) ++ ⟨#[61]⟩ = str (B6.encF f n) (4 * g + (k + 1)) from by
                  have e61 : (⟨#[61]⟩ : ByteArray) = str (fun _ => 61) 1 := by decide +kernel
                  rw [e61]
                  refine str_snoc F0.out (4 * g + k) _ ?_
                  rw [hone, B6.one_pad (by have := hp.out; omega)])
                obtain ⟨X, hX⟩ : ∃ X, str (B6.encF f n) (4 * g + k) = X := ⟨_, rfl⟩
                have hXs : X.size = 4 * g + k := by rw [← hX]; exact str_size _ _
                have hcat : ¬ 9223372036854775807 < X.size + 1 := by rw [hXs]; have := hp.out; omega
                rw [hX] at HE
                rw [HANY.out, hX]
                clear hXs hX h6 hone
                go_wp2_with fail
                go_roundg (4 - (k + 1))
                case measure => omega
                case rel => exact ⟨k + 1, by omega, rfl, by go_num, by rw [HE.out], rfl⟩
        · obtain rfl : k = 4 := by omega
          go_wp2_with fail
          go_roundg (n - (p + 3))
          case measure => omega
          case rel => exact ⟨p + 3, g + 1, hid (by have := hp.out; omega), rfl, by omega, by go_num, rfl, rfl⟩
    · have h1 : ¬ (p : Int) < n := by omega
      have hE := hid (show 4 * g = B6.encN n by have := hp.out; unfold B6.encN; omega)
      go_wp2_with fail
      go_ret
      exact ⟨by rw [hE.out]; rfl, rfl⟩
end Go.Proofs.YthemaacfjmcbnaaDoor
