/-
  Walks of package base64's bytesOf.
-/
import Derived.Test.YthemaacfjmcbnaaDoorB6W2
namespace Go.Proofs.YthemaacfjmcbnaaDoor
open Go.RowKit
set_option linter.unusedVariables false

namespace B6
def nth (a b c d : Int) (k : Nat) : Int := if k = 0 then a else if k = 1 then b else if k = 2 then c else d
def cut (a b c d : Int) : Nat → Int
  | 0 => 3
  | k + 1 => cut a b c d k - pd (nth a b c d k)
def run (a b c d : Int) : Nat → Int
  | 0 => 0
  | k + 1 => run a b c d k * 64 + u (nth a b c d k)
theorem u_bd (c : Int) (h : c = 61 ∨ 0 ≤ val c) : 0 ≤ u c ∧ u c ≤ 63 := by
  rcases h with rfl | h
  · rw [u_61]; omega
  · rw [u_val h]; exact ⟨h, (val_bd c).2⟩
theorem run_bd {a b c d : Int} (h : ∀ k, nth a b c d k = 61 ∨ 0 ≤ val (nth a b c d k)) : ∀ k, k ≤ 4 → 0 ≤ run a b c d k ∧ run a b c d k < 64 ^ k
  | 0, _ => by show (0 : Int) ≤ 0 ∧ (0 : Int) < 1; omega
  | k + 1, hk => by
    have := run_bd h k (by omega)
    have q := u_bd _ (h k)
    have e : (64 : Int) ^ (k + 1) = 64 ^ k * 64 := Int.pow_succ _ _
    simp only [run]
    omega
theorem run_lt {a b c d : Int} (h : ∀ k, nth a b c d k = 61 ∨ 0 ≤ val (nth a b c d k)) (k : Nat) (hk : k ≤ 4) : 0 ≤ run a b c d k ∧ run a b c d k < 16777216 := by
  have q := run_bd h k hk
  have : (64 : Int) ^ k ≤ 16777216 := by
    obtain rfl | rfl | rfl | rfl | rfl : k = 0 ∨ k = 1 ∨ k = 2 ∨ k = 3 ∨ k = 4 := by omega
    all_goals decide
  omega
theorem cut_bd (a b c d : Int) : ∀ k : Nat, 3 - (k : Int) ≤ cut a b c d k ∧ cut a b c d k ≤ 3
  | 0 => by show (3 : Int) - 0 ≤ 3 ∧ (3 : Int) ≤ 3; omega
  | k + 1 => by
    have := cut_bd a b c d k
    have q : pd (nth a b c d k) = 0 ∨ pd (nth a b c d k) = 1 := by unfold pd; split; exact Or.inr rfl; exact Or.inl rfl
    simp only [cut]
    omega
theorem cut_np (a b c d : Int) : cut a b c d 4 = np a b c d := rfl
theorem run_four (a b c d : Int) : run a b c d 4 = ((u a * 64 + u b) * 64 + u c) * 64 + u d := by show (((0 * 64 + u a) * 64 + u b) * 64 + u c) * 64 + u d = _; omega
end B6

set_option maxRecDepth 100000 in
set_option maxHeartbeats 1600000 in
theorem bytesOf_calls (a b c d : Int) (hbd : ∀ k, 0 ≤ B6.nth a b c d k ∧ B6.nth a b c d k ≤ 255) (hs : ∀ k, B6.nth a b c d k = 61 ∨ 0 ≤ B6.val (B6.nth a b c d k)) (w : World) :
    Calls Tryd.prog 42 #[.agg #[.int .u8 a, .int .u8 b, .int .u8 c, .int .u8 d]] w fun e w' =>
      e = .returned (.tuple #[.agg #[.int .u8 ((B6.u a * 4 + B6.u b / 16) % 256), .int .u8 ((B6.u b * 16 + B6.u c / 4) % 256), .int .u8 ((B6.u c * 64 + B6.u d) % 256)], .int .i64 (B6.np a b c d)]) ∧ Below w.heap.size w w' := by
  have HS := hid hs
  have HBD := hid hbd
  clear hs hbd
  have ix : ∀ (k : Nat), k < 4 → ∀ w : World, (Instr.index 72 (.agg #[.int .u8 a, .int .u8 b, .int .u8 c, .int .u8 d]) (.int .i64 k)).run Tryd.prog w = .ok (.int .u8 (B6.nth a b c d k)) w := fun k hk w => by
    obtain rfl | rfl | rfl | rfl : k = 0 ∨ k = 1 ∨ k = 2 ∨ k = 3 := by omega
    all_goals kernel_rfl
  have IX := hid ix
  clear ix
  go_enter Tryd.func42, Tryd.ntmps42
  go_wp2_with fail
  go_loopg [4, 5, 9] 4 (fun r n bt i wr => ∃ k : Nat, k ≤ 4 ∧ r = 4 - k ∧ i = .int .i64 k ∧ n = .int .i64 (B6.cut a b c d k) ∧ bt = .int .i64 (B6.run a b c d k) ∧ wr = (w.alloc (.cells #[.int .u8 a, .int .u8 b, .int .u8 c, .int .u8 d] 72)).alloc (.cells #[.int .u8 0, .int .u8 0, .int .u8 0] 71))
  case atStart => exact ⟨0, by omega, rfl, rfl, rfl, rfl, rfl⟩
  case round =>
    obtain ⟨k, hk, rfl, rfl, rfl, rfl, rfl⟩ := hrel
    have hr := B6.run_lt HS.out k hk
    have hcb := B6.cut_bd a b c d k
    have hcut : B6.cut a b c d (k + 1) = B6.cut a b c d k - B6.pd (B6.nth a b c d k) := rfl
    have hrun : B6.run a b c d (k + 1) = B6.run a b c d k * 64 + B6.u (B6.nth a b c d k) := rfl
    have HCUT := hid hcut
    have HRUN := hid hrun
    clear hcut hrun
    by_cases hk4 : k < 4
    · have hk4' : (k : Int) < 4 := by omega
      have ixk := IX.out k hk4
      by_cases hp : B6.nth a b c d k = 61
      · rw [hp] at ixk
        go_wp2_with fail
        go_roundg (4 - (k + 1))
        case measure => omega
        case rel => exact ⟨k + 1, by omega, rfl, by go_num, by rw [HCUT.out, hp, B6.pd_61], by rw [HRUN.out, hp, B6.u_61, Int.add_zero], rfl⟩
      · have hp' : (B6.nth a b c d k == 61) = false := by simpa using hp
        obtain ⟨v, hv⟩ : ∃ v, B6.val (B6.nth a b c d k) = v := ⟨_, rfl⟩
        have HV := hid hv
        have v0 : 0 ≤ v := by rcases HS.out k with h | h; exact absurd h hp; rw [hv] at h; exact h
        have v1 : v ≤ 63 := by rw [← hv]; exact (B6.val_bd _).2
        clear hv
        go_wp2_with fail
        refine (bitsOf_val _ v (HBD.out k) HV _).mono ?_
        rintro e w1 ⟨rfl, rfl⟩
        have hor := Utf.i64_or64 (B6.run a b c d k * 64) v (by omega) (by omega) (by omega) (by omega) (by omega)
        go_wp2_with fail
        go_roundg (4 - (k + 1))
        case measure => omega
        case rel => exact ⟨k + 1, by omega, rfl, by go_num, by rw [HCUT.out]; unfold B6.pd; rw [if_neg hp, Int.sub_zero], by rw [HRUN.out]; unfold B6.u; rw [if_neg hp, HV.out], rfl⟩
    · obtain rfl : k = 4 := by omega
      go_wp2_with fail
      refine bodyPost_ret (v := .tuple #[.agg #[.int .u8 (B6.run a b c d 4 / 65536), .int .u8 (B6.run a b c d 4 / 256 % 256), .int .u8 (B6.run a b c d 4 % 256)], .int .i64 (B6.cut a b c d 4)]) (by simp [results, Tryd.results42, go_sem]) rfl ⟨?_, ?_⟩
      · have e := B6.run_four a b c d
        have ua := B6.u_bd _ (HS.out 0)
        have ub := B6.u_bd _ (HS.out 1)
        have uc := B6.u_bd _ (HS.out 2)
        have ud := B6.u_bd _ (HS.out 3)
        simp only [show B6.nth a b c d 0 = a from rfl, show B6.nth a b c d 1 = b from rfl, show B6.nth a b c d 2 = c from rfl, show B6.nth a b c d 3 = d from rfl] at ua ub uc ud
        rw [show B6.run a b c d 4 / 65536 = (B6.u a * 4 + B6.u b / 16) % 256 by omega, show B6.run a b c d 4 / 256 % 256 = (B6.u b * 16 + B6.u c / 4) % 256 by omega, show B6.run a b c d 4 % 256 = (B6.u c * 64 + B6.u d) % 256 by omega, B6.cut_np]
      · exact ((Below.refl _ _).alloc (Nat.le_refl _) _).alloc (by simp) _
end Go.Proofs.YthemaacfjmcbnaaDoor
