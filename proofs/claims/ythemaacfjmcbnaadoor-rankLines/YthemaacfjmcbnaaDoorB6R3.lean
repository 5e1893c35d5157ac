/-
  Walks of the reference's begins and Decode.
-/
import Derived.Test.YthemaacfjmcbnaaDoorB6R2
import Derived.Test.YthemaacfjmcbnaaDoorOwn
import Derived.Test.YthemaacfjmcbnaaDoorB6I
import Derived.Deep.RegionHeld3
namespace Go.Proofs.YthemaacfjmcbnaaDoor
open Go.RowKit
set_option linter.unusedVariables false

set_option maxRecDepth 100000 in
set_option maxHeartbeats 1600000 in
theorem begins_calls (s : ByteArray) (m : Nat) (f : Nat → Int) (w : World) (hm : m ≤ 100000) (hS : St s (m + 1) f) :
    Calls Tryd.prog 35 #[.string s] w fun e w' => Says e (B6.Begins f m) ∧ w' = w := by
  have HS := hid hS
  clear hS
  go_enter Tryd.func35, Tryd.ntmps35
  go_wp2_with fail
  go_loopg [0] m (fun r sv wr => ∃ (j n : Nat) (c : ByteArray), 4 * j ≤ m ∧ n = m + 1 - 4 * j ∧ r = m - j ∧ sv = .string c ∧ Hid (St c n (fun i => f (4 * j + i))) ∧ Hid (∀ i, i < j → B6.All4 f i) ∧ w = wr)
  case atStart => exact ⟨0, m + 1, s, by omega, by omega, by omega, rfl, hid (HS.out.congr (fun i => HS.out.bd _) (fun i hi => by rw [Nat.mul_zero, Nat.zero_add])), hid (fun i hi => absurd hi (by omega)), rfl⟩
  case round =>
    obtain ⟨j, n, c, hj, hn, rfl, rfl, HC, HA, rfl⟩ := hrel
    have hsz := HC.out.size
    have hn1 : n + 4 * j = m + 1 := by omega
    clear hn
    by_cases h4 : 4 < n
    · have h4' : (4 : Int) < n := by omega
      have h4n : (4 : Int) ≤ n := by omega
      have X4 := hid (HC.out.extract 0 4 (by omega) (by omega))
      have X5 := hid (HC.out.extract 4 n (by omega) (by omega))
      go_wp2_with fail
      refine (signs_calls _ _ _ _ (by omega) X4.out).mono ?_
      rintro e w ⟨hb, rfl⟩
      have HQ := hid (show (∀ i, i < 4 - 0 → 0 ≤ B6.val (f (4 * j + (0 + i)))) ↔ B6.All4 f j from
        ⟨fun h => ⟨by simpa using h 0 (by omega), by simpa using h 1 (by omega), by simpa using h 2 (by omega), by simpa using h 3 (by omega)⟩, fun h i hi => by
          obtain rfl | rfl | rfl | rfl : i = 0 ∨ i = 1 ∨ i = 2 ∨ i = 3 := by omega
          · simpa using h.1
          · simpa using h.2.1
          · simpa using h.2.2.1
          · simpa using h.2.2.2⟩)
      rcases hb.of with ⟨rfl, q⟩ | ⟨rfl, q⟩
      · have Q := hid (HQ.out.1 q)
        clear hb q
        go_wp2_with fail
        go_roundg (m - (j + 1))
        case measure => omega
        case rel =>
          refine ⟨j + 1, n - 4, _, by omega, by omega, rfl, rfl, hid (X5.out.congr (fun i => HS.out.bd _) (fun i hi => by rw [show 4 * j + (4 + i) = 4 * (j + 1) + i by omega])), hid (fun i hi => ?_), rfl⟩
          by_cases e : i = j
          · subst e; exact Q.out
          · exact HA.out i (by omega)
      · have Q := hid (fun h => q (HQ.out.2 h))
        clear hb q
        go_wp2_with fail
        go_ret
        exact ⟨Says.no fun h => Q.out (h.1 j (by omega)), rfl⟩
    · have h4' : ¬ (4 : Int) < n := by omega
      have hne : (c.toList == (⟨#[]⟩ : ByteArray).toList) = false := HC.out.beq_no (St.any ⟨#[]⟩) (fun h => by have := h.1; have e : (⟨#[]⟩ : ByteArray).size = 0 := rfl; omega)
      have hne2 : ¬ c.toList = [] := fun e => by rw [e, ByteArray.toList_eq] at hne; simp at hne
      have hie : c.toList.isEmpty = false := by rw [List.isEmpty_eq_false_iff]; exact hne2
      clear hne
      have HJ := hid (show m / 4 = j by omega)
      have HN := hid (show m % 4 + 1 = n by omega)
      go_wp2_with fail
      refine (last_calls _ n _ _ (by omega) (by omega) HC.out).mono ?_
      rintro e w ⟨hb, rfl⟩
      rcases hb.of with ⟨rfl, q⟩ | ⟨rfl, q⟩
      · have Q := hid q
        clear hb q
        go_wp2_with fail
        go_ret
        refine ⟨Says.yes ⟨?_, ?_⟩, rfl⟩
        · rw [HJ.out]; exact HA.out
        · rw [HJ.out, HN.out]; exact Q.out
      · have Q := hid q
        clear hb q
        go_wp2_with fail
        go_ret
        refine ⟨Says.no fun h => Q.out ?_, rfl⟩
        have := h.2
        rw [HJ.out, HN.out] at this
        exact this

set_option maxRecDepth 100000 in
set_option maxHeartbeats 3200000 in
theorem rdecode_bad (s : ByteArray) (n p : Nat) (f : Nat → Int) (w : World) (hn : n ≤ 100000) (hS : St s n f) (hB : B6.Bad f n p) :
    Calls Tryd.prog 23 #[.string s] w fun e w' => e = .returned (.tuple #[.string ⟨#[]⟩, .int .i64 p, .bool false]) ∧ w' = w := by
  have HS := hid hS
  have hsz := hS.size
  obtain ⟨b1, b2, b3⟩ := B6.bad_beg hB
  have hpn := B6.bad_le hB
  have HB1 := hid b1
  have HB2 := hid b2
  have HB3 := hid b3
  clear hS hB b1 b2 b3
  go_enter Tryd.func23, Tryd.ntmps23
  go_wp2_with fail
  go_loopg [5] n (fun r mv wr => ∃ m : Nat, m ≤ p ∧ r = n - m ∧ mv = .int .i64 m ∧ w = wr)
  case atStart => exact ⟨0, by omega, by omega, rfl, rfl⟩
  case round =>
    obtain ⟨m, hmp, rfl, rfl, rfl⟩ := hrel
    by_cases hlt : m < n
    · have h1 : (m : Int) < n := by omega
      have hw1 : IntKind.i64.wrap ((m : Int) + 1) = (m : Int) + 1 := i64_in (by omega) (by omega)
      have hq0 : (0 : Int) ≤ (m : Int) + 1 := by omega
      have hq1 : (m : Int) + 1 ≤ n := by omega
      have hx := HS.out.extract 0 (m + 1) (by omega) (by omega)
      rw [show m + 1 - 0 = m + 1 by omega] at hx
      have HX := hid hx
      have HBG := hid (show B6.Begins (fun k => f (0 + k)) m ↔ B6.Beg f n m from (B6.begins_congr (fun i _ => by rw [Nat.zero_add])).trans (B6.begins_iff hlt))
      clear hx
      go_wp2_with fail
      refine (begins_calls _ m _ _ (by omega) HX.out).mono ?_
      rintro e w ⟨hb, rfl⟩
      rcases hb.of with ⟨rfl, q⟩ | ⟨rfl, q⟩
      · have Q := hid (HBG.out.1 q)
        have hne : m < p := by
          by_cases e : m < p
          · exact e
          · obtain rfl : m = p := by omega
            exact absurd Q.out (HB2.out hlt)
        clear hb q
        go_wp2_with fail
        go_roundg (n - (m + 1))
        case measure => omega
        case rel => exact ⟨m + 1, by omega, rfl, by go_num, rfl⟩
      · have Q := hid (fun h => q (HBG.out.2 h))
        obtain rfl : m = p := by
          by_cases e : m < p
          · exact absurd (HB1.out m e) Q.out
          · omega
        clear hb q
        go_wp2_with fail
        go_ret3
        exact ⟨rfl, rfl⟩
    · obtain rfl : m = n := by omega
      obtain rfl : m = p := by omega
      have h1 : ¬ (m : Int) < m := by omega
      have h4 := HB3.out rfl
      have h4' : ((m : Int) % 4 != 0) = true := by simp; omega
      have h4'' : ((m : Int).tmod 4 != 0) = true := by rw [Int.tmod_eq_emod_of_nonneg (by omega)]; exact h4'
      have h5 : ¬ (m : Int) % 4 = 0 := by omega
      go_wp2_with fail
      go_ret3
      exact ⟨rfl, rfl⟩
end Go.Proofs.YthemaacfjmcbnaaDoor
