/-
  The walk of the reference's might.
-/
import Derived.Test.YtaejoleijmihhaaUtfR3
import Derived.Test.YtaejoleijmihhaaUtfMathC
namespace Go.Proofs.Ytaejoleijmihhaa
open Go.RowKit
set_option linter.unusedVariables false

theorem St.one (c : UInt8) : St ⟨#[c]⟩ 1 (fun _ => (c.toNat : Int)) :=
  ⟨rfl, fun i h => by
    have hi : i = 0 := by have : i < 1 := h; omega
    subst hi; rfl, fun _ => by have := c.toNat_lt; omega⟩
theorem cat_step {f : Nat → Int} {m k : Nat} {c : Int} (h : m ≤ k) {s t : ByteArray} (hs : St s k (cat f m fun _ => c)) (ht : St t 1 fun _ => c) : St (s ++ t) (k + 1) (cat f m fun _ => c) := by
  refine (hs.append ht).congr hs.bd (fun i hi => ?_)
  by_cases hik : i < k
  · rw [cat_lt hik]
  · rw [cat_ge (by omega), cat_ge (by omega)]

set_option maxHeartbeats 400000 in
theorem might_calls (s : ByteArray) (m n : Nat) (f : Nat → Int) (w : World) (h1 : 1 ≤ m) (h4 : n ≤ 4) (hmn : m < n) (hS : St s m f) :
    Calls Try.prog 29 #[.string s, .int .i64 n] w fun e w' => (∃ a b : Int, e = .returned (.bool (Utf.mightB n a b)) ∧ Utf.BR (cat f m fun _ => 128) n a ∧ Utf.BR (cat f m fun _ => 191) n b) ∧ w' = w := by
  have hl : St s m (cat f m fun _ => 128) := hS.congr (cat_bd hS.bd (fun _ => by omega)) (fun i hi => (cat_lt hi).symm)
  have hh : St s m (cat f m fun _ => 191) := hS.congr (cat_bd hS.bd (fun _ => by omega)) (fun i hi => (cat_lt hi).symm)
  have HL := hid hl
  have HH := hid hh
  clear hl hh hS
  go_enter Try.func29, Try.ntmps29
  go_wp2_with fail
  go_loop [5, 6] (fun l h => ∃ (k : Nat) (sl sh : ByteArray), m ≤ k ∧ k ≤ n ∧ l = .string sl ∧ h = .string sh ∧ St sl k (cat f m fun _ => 128) ∧ St sh k (cat f m fun _ => 191)) (fun l _ => n - (match l with | .string x => x.size | _ => 0))
  case atStart => exact ⟨m, s, s, Nat.le_refl _, by omega, rfl, rfl, HL.out, HH.out⟩
  case round =>
    obtain ⟨k, sl, sh, hk1, hk2, rfl, rfl, hsl, hsh⟩ := hrel
    have z1 := hsl.size
    have z2 := hsh.size
    have HSL := hid hsl
    have HSH := hid hsh
    clear hsl hsh
    have q1 : (sl.size : Int) ≤ 8388608 := by omega
    have q2 : (sh.size : Int) ≤ 8388608 := by omega
    by_cases hlt : k < n
    · have hlt' : (sl.size : Int) < n := by omega
      go_wp2_with fail
      exact ⟨⟨k + 1, _, _, by omega, by omega, rfl, rfl, cat_step hk1 HSL.out (St.one 128), cat_step hk1 HSH.out (St.one 191)⟩, by simp only [ByteArray.size_append]; show n - (sl.size + 1) < n - sl.size; omega⟩
    · obtain rfl : k = n := by omega
      have hlt' : ¬ (sl.size : Int) < k := by omega
      go_wp2_with fail
      refine (bits_calls sl k k _ _ (by omega) (by omega) (Nat.le_refl _) HSL.out (by unfold maxLen; omega)).mono ?_
      rintro e w ⟨⟨a, rfl, ha⟩, rfl⟩
      have HA := hid ha
      clear ha
      go_wp2_with fail
      refine (bits_calls sh k k _ _ (by omega) (by omega) (Nat.le_refl _) HSH.out (by unfold maxLen; omega)).mono ?_
      rintro e w ⟨⟨b, rfl, hb⟩, rfl⟩
      have HB := hid hb
      clear hb
      by_cases ha : a < 0
      · go_wp2_with fail
        go_ret
        exact ⟨⟨a, b, ret_bool (by unfold Utf.mightB; rw [if_pos (Or.inl ha)]), HA.out, HB.out⟩, rfl⟩
      by_cases hb : b < 0
      · go_wp2_with fail
        go_ret
        exact ⟨⟨a, b, ret_bool (by unfold Utf.mightB; rw [if_pos (Or.inr hb)]), HA.out, HB.out⟩, rfl⟩
      have HM := hid (show Utf.mightB k a b = _ by unfold Utf.mightB; rw [if_neg (by omega)])
      obtain rfl | rfl | rfl : k = 2 ∨ k = 3 ∨ k = 4 := by omega
      all_goals
        go_wp2_with fail
        all_goals
          go_ret
          refine ⟨⟨a, b, ret_bool ?_, HA.out, HB.out⟩, rfl⟩
          rw [HM.out]
          simp only [Utf.least]
          rw [Bool.eq_iff_iff]
          simp
          try omega
end Go.Proofs.Ytaejoleijmihhaa
