/-
  The walk of package utf's Decode.
-/
import Derived.Test.YtaejoleijmihhaaUtfW3
namespace Go.Proofs.Ytaejoleijmihhaa
open Go.RowKit
set_option linter.unusedVariables false

/-- Three results as one value. -/
def D3 (d : Int × Int × Bool) : Value := .tuple #[.int .i64 d.1, .int .i64 d.2.1, .bool d.2.2]

set_option maxHeartbeats 400000 in
theorem decode_none (a : Option Addr) (cap : Nat) (fin : Bool) (w : World) :
    Calls Try.prog 19 #[.slice a 0 cap, .bool fin] w fun e w' => e = .returned (.tuple #[.int .i64 (-1), .int .i64 0, .bool true]) ∧ w' = w := by
  go_enter Try.func19, Try.ntmps19
  go_wp2
  go_ret3
  exact ⟨rfl, rfl⟩

set_option maxHeartbeats 400000 in
theorem decode_some (b off n cap : Nat) (f : Nat → Int) (fin : Bool) (w : World) (hn : 0 < n) (hcap : n ≤ cap) (hm : cap ≤ maxLen) (hb : Bs w b off n f) :
    Calls Try.prog 19 #[.slice (some ⟨b, off, none⟩) n cap, .bool fin] w fun e w' => e = .returned (D3 (Utf.dec f n fin)) ∧ w' = w := by
  have hc0 := hb.1 0 hn
  simp only [Nat.add_zero] at hc0
  have Hb := hid hb
  clear hb
  have hsb := Utf.sizeOf_bd (f 0)
  obtain ⟨s, hs⟩ := Int.eq_ofNat_of_zero_le hsb.1
  have Hs := hid hs
  have hs4 : s ≤ 4 := by omega
  clear hsb hs
  unfold maxLen at hm
  have hn' : (0 : Int) < n := by omega
  have hn0 : ((n : Int) == 0) = false := by simp; omega
  go_enter Try.func19, Try.ntmps19
  go_wp2_with fail
  refine (sizeOf_calls _ _).mono ?_
  rintro e w' ⟨rfl, rfl⟩
  rw [Hs.out]
  go_wp2_with fail
  refine (firstPart_calls b off n cap f s _ (by omega) (by omega) hn (by unfold maxLen; omega) Hb.out).mono ?_
  rintro e w' ⟨⟨k, rfl, hfp⟩, rfl⟩
  rw [Int.toNat_natCast] at hfp
  have Hk := hid (Utf.fp_eq f _ k (by omega) hfp).symm
  clear hfp
  by_cases hA : 0 < s ∧ k = s
  · obtain ⟨hA1, rfl⟩ := hA
    have hkn : k ≤ n := by have := Utf.fpN_le f (min k n); rw [Hk.out] at this; omega
    have HD := hid (Utf.dec_yes (fin := fin) hn Hs.out hA1 Hk.out)
    have hA1' : (0 : Int) < k := by omega
    have hkn' : (k : Int) ≤ n := by omega
    go_wp2_with fail
    refine (join_calls b off k cap f _ (by omega) (by omega) (by omega) (by unfold maxLen; omega) ⟨fun i hi => Hb.out.1 i (by omega), Hb.out.2⟩).mono ?_
    rintro e w' ⟨rfl, rfl⟩
    go_wp2_with fail
    go_ret3
    exact ⟨by rw [HD.out]; rfl, rfl⟩
  · have hA' : ¬ (0 < s ∧ Utf.fpN f (min s n) = s) := by rw [Hk.out]; exact hA
    have HD := hid (fun hk => Utf.dec_more hn Hs.out hA' hk)
    have HD' := hid (fun hk => Utf.dec_no (fin := fin) hn Hs.out hA' hk)
    have HA := hid hA
    clear hA hA'
    by_cases hs0 : 0 < s
    · have hs0' : (0 : Int) < s := by omega
      have hks : ((k : Int) == s) = false := by have := HA.out; simp; omega
      by_cases hkn : k = n
      · subst hkn
        cases fin
        · go_wp2_with fail
          go_ret3
          exact ⟨by rw [HD.out Hk.out]; rfl, rfl⟩
        · go_wp2_with fail
          go_ret3
          exact ⟨by rw [HD'.out (by simp)]; rfl, rfl⟩
      · have hkn' : ((k : Int) == n) = false := by simp; omega
        go_wp2_with fail
        go_ret3
        exact ⟨by rw [HD'.out (by rw [Hk.out]; omega)]; rfl, rfl⟩
    · obtain rfl : s = 0 := by omega
      have hk0 : k = 0 := by have := Hk.out; rw [Nat.zero_min] at this; exact this.symm
      subst hk0
      have hkn' : ((0 : Int) == n) = false := by simp; omega
      go_wp2_with fail
      go_ret3
      exact ⟨by rw [HD'.out (by rw [Hk.out]; omega)]; rfl, rfl⟩
end Go.Proofs.Ytaejoleijmihhaa
