/-
  The walk of the law LineNumbers.
-/
import Derived.Test.YtjbcjlpincblcaaDoorLnF
namespace Go.Proofs.YtjbcjlpincblcaaDoor
open Go.RowKit
open Go.Lib (decDigits itoa)
set_option linter.unusedVariables false

theorem bytesF_mk (l : List UInt8) : bytesF (mk l) = Ln.gF l := by
  funext i
  unfold bytesF Ln.gF mk
  simp [Array.getD_eq_getD_getElem?]

/-- What Number answers at the digits of a number. -/
theorem numberDigits_calls (n : Int) (h0 : -9223372036854775808 ≤ n) (h1 : n ≤ 9223372036854775807) (w : World) :
    Calls Tryd.prog 13 #[.string (mk (itoa n))] w fun e w' => ((0 ≤ n ∧ n ≤ 9999999) ∧ e = .returned (.tuple #[.int .i64 n, .bool true]) ∨ ¬ (0 ≤ n ∧ n ≤ 9999999) ∧ e = .returned (.tuple #[.int .i64 0, .bool false])) ∧ w' = w := by
  have hl := Go.Lib.itoa_length_le n h0 h1
  have hS := St.any (mk (itoa n))
  rw [bytesF_mk, mk_size] at hS
  refine (number_calls (mk (itoa n)) (itoa n).length (Ln.gF (itoa n)) w (by omega) hS).mono ?_
  rintro e w' ⟨ho, rfl⟩
  refine ⟨?_, rfl⟩
  by_cases hs : 0 ≤ n ∧ n ≤ 9999999
  · have hn := Ln.num_itoa hs.1 hs.2
    rcases ho with ⟨_, rfl⟩ | ⟨h, _⟩
    · exact .inl ⟨hs, by rw [hn.2]⟩
    · exact absurd hn.1 h
  · rcases ho with ⟨h, _⟩ | ⟨_, rfl⟩
    · exact absurd h (Ln.num_itoa_not hs)
    · exact .inr ⟨hs, rfl⟩

set_option maxRecDepth 100000 in
set_option maxHeartbeats 3200000 in
theorem lineNumbers_calls (s : ByteArray) (n : Int) (h0 : -9223372036854775808 ≤ n) (h1 : n ≤ 9223372036854775807) (w : World) (ht : Tab w) :
    Calls Tryd.prog 5 #[.string s, .int .i64 n] w fun e w' => e = .returned (.bool true) ∧ Below w.heap.size w w' := by
  have HT := hid ht
  clear ht
  obtain ⟨N, hN⟩ : ∃ N, s.size = N := ⟨_, rfl⟩
  have HS := hid (St.any s)
  rw [hN] at HS
  obtain ⟨f, hf⟩ : ∃ f, bytesF s = f := ⟨_, rfl⟩
  rw [hf] at HS
  clear hf
  by_cases hb0 : 100 < N
  · have hb0' : (100 : Int) < N := by omega
    go_enter Tryd.func5, Tryd.ntmps5
    go_wp2_with fail
    refine (fixed06_calls _ HT.out).mono ?_
    rintro e w' ⟨rfl, hb⟩
    go_wp2_with fail
    go_ret
    exact ⟨rfl, hb⟩
  have hb0' : ¬ (100 : Int) < N := by omega
  obtain ⟨X, hX⟩ : ∃ X, mk (itoa n) = X := ⟨_, rfl⟩
  have HX := hid hX
  clear hX
  have hXX : (X.toList == X.toList) = true := beq_self_eq_true _
  go_enter Tryd.func5, Tryd.ntmps5
  go_wp2_with fail
  refine (number_calls s N f _ (by omega) HS.out).mono ?_
  rintro e w1 ⟨ho, hw1⟩
  subst hw1
  obtain ⟨k, ok, want, hrel, HK⟩ : ∃ (k : Int) (ok : Bool) (want : Int), e = .returned (.tuple #[.int .i64 k, .bool ok]) ∧ Hid ((∀ e', RNum f N e' → e' = .returned (.int .i64 want)) ∧ ((ok = true ∧ 0 ≤ want ∧ k = want) ∨ (ok = false ∧ want = -1 ∧ k = 0))) := by
    rcases ho with ⟨h, rfl⟩ | ⟨h, rfl⟩
    · refine ⟨Ln.vF f N, true, Ln.vF f N, rfl, fun e' he' => ?_, .inl ⟨rfl, (Ln.vF_bd h.2.2.2).1, rfl⟩⟩
      rcases he' with ⟨_, rfl⟩ | ⟨h', _⟩
      · rfl
      · exact absurd h h'
    · refine ⟨0, false, -1, rfl, fun e' he' => ?_, .inr ⟨rfl, rfl, rfl⟩⟩
      rcases he' with ⟨h', _⟩ | ⟨_, rfl⟩
      · exact absurd h' h
      · rfl
  subst hrel
  clear ho
  go_wp2_with fail
  refine (rnumber_calls s N f _ (by omega) HS.out).mono ?_
  rintro e w2 ⟨ho, hw2⟩
  subst hw2
  have he := HK.out.1 _ ho
  subst he
  clear ho
  have hk := HK.out.2
  clear HK
  go_wp2_with fail
  refine (digits_calls n h0 h1 _ HT.out).mono ?_
  rintro e w3 ⟨rfl, hb3⟩
  have B3 := hid hb3
  have HT3 := hid (HT.out.below hb3)
  clear hb3
  go_wp2_with fail
  refine (numberDigits_calls n h0 h1 _).mono ?_
  rintro e w4 ⟨ho, hw4⟩
  subst hw4
  rw [HX.out]
  rcases hk with ⟨rfl, k0, rfl⟩ | ⟨rfl, rfl, rfl⟩
  · have k0' : ¬ k < 0 := by omega
    have hmax : max k 0 = k := by omega
    rcases ho with ⟨⟨s0, s1⟩, rfl⟩ | ⟨hs, rfl⟩
    · have s0' : ¬ n < 0 := by omega
      have s1' : ¬ 9999999 < n := by omega
      go_wp2_with fail
      refine (fixed06_calls _ HT3.out).mono ?_
      rintro e w5 ⟨rfl, hb5⟩
      have B5 := hid (B3.out.trans (hb5.mono B3.out.size))
      have HT5 := hid (HT3.out.below hb5)
      clear hb5
      go_wp2_with fail
      refine (digits_calls n h0 h1 _ HT5.out).mono ?_
      rintro e w6 ⟨rfl, hb6⟩
      rw [HX.out]
      have B6 := hid (B5.out.trans (hb6.mono B5.out.size))
      clear hb6
      go_wp2_with fail
      refine (rDigits_calls n h0 h1 _).mono ?_
      rintro e w7 ⟨rfl, hw7⟩
      subst hw7
      rw [HX.out]
      go_wp2_with fail
      go_ret
      exact ⟨rfl, B6.out⟩
    by_cases hneg : n < 0
    · have hz : ¬ n = 0 := by omega
      have hz' : ¬ 0 = n := by omega
      have hz2 : ((0 : Int) == n) = false := by simpa using hz'
      have hz3 : (n == (0 : Int)) = false := by simpa using hz
      have hge : ¬ 0 ≤ n := by omega
      clear hs
      go_wp2_with fail
      refine (fixed06_calls _ HT3.out).mono ?_
      rintro e w5 ⟨rfl, hb5⟩
      have B5 := hid (B3.out.trans (hb5.mono B3.out.size))
      have HT5 := hid (HT3.out.below hb5)
      clear hb5
      go_wp2_with fail
      refine (digits_calls n h0 h1 _ HT5.out).mono ?_
      rintro e w6 ⟨rfl, hb6⟩
      rw [HX.out]
      have B6 := hid (B5.out.trans (hb6.mono B5.out.size))
      clear hb6
      go_wp2_with fail
      refine (rDigits_calls n h0 h1 _).mono ?_
      rintro e w7 ⟨rfl, hw7⟩
      subst hw7
      rw [HX.out]
      go_wp2_with fail
      go_ret
      exact ⟨rfl, B6.out⟩
    · have hge : 0 ≤ n := by omega
      have hgt : 9999999 < n := by omega
      have hgt' : decide (n ≤ 9999999) = false := by simp; omega
      have hz : ¬ n = 0 := by omega
      have hz' : ¬ 0 = n := by omega
      have hz2 : ((0 : Int) == n) = false := by simpa using hz'
      have hz3 : (n == (0 : Int)) = false := by simpa using hz
      clear hs
      go_wp2_with fail
      refine (fixed06_calls _ HT3.out).mono ?_
      rintro e w5 ⟨rfl, hb5⟩
      have B5 := hid (B3.out.trans (hb5.mono B3.out.size))
      have HT5 := hid (HT3.out.below hb5)
      clear hb5
      go_wp2_with fail
      refine (digits_calls n h0 h1 _ HT5.out).mono ?_
      rintro e w6 ⟨rfl, hb6⟩
      rw [HX.out]
      have B6 := hid (B5.out.trans (hb6.mono B5.out.size))
      clear hb6
      go_wp2_with fail
      refine (rDigits_calls n h0 h1 _).mono ?_
      rintro e w7 ⟨rfl, hw7⟩
      subst hw7
      rw [HX.out]
      go_wp2_with fail
      go_ret
      exact ⟨rfl, B6.out⟩
  · have hmax : max (-1 : Int) 0 = 0 := rfl
    rcases ho with ⟨⟨s0, s1⟩, rfl⟩ | ⟨hs, rfl⟩
    · have s0' : ¬ n < 0 := by omega
      have s1' : ¬ 9999999 < n := by omega
      go_wp2_with fail
      refine (fixed06_calls _ HT3.out).mono ?_
      rintro e w5 ⟨rfl, hb5⟩
      have B5 := hid (B3.out.trans (hb5.mono B3.out.size))
      have HT5 := hid (HT3.out.below hb5)
      clear hb5
      go_wp2_with fail
      refine (digits_calls n h0 h1 _ HT5.out).mono ?_
      rintro e w6 ⟨rfl, hb6⟩
      rw [HX.out]
      have B6 := hid (B5.out.trans (hb6.mono B5.out.size))
      clear hb6
      go_wp2_with fail
      refine (rDigits_calls n h0 h1 _).mono ?_
      rintro e w7 ⟨rfl, hw7⟩
      subst hw7
      rw [HX.out]
      go_wp2_with fail
      go_ret
      exact ⟨rfl, B6.out⟩
    by_cases hneg : n < 0
    · have hz : ¬ n = 0 := by omega
      have hz' : ¬ 0 = n := by omega
      have hz2 : ((0 : Int) == n) = false := by simpa using hz'
      have hz3 : (n == (0 : Int)) = false := by simpa using hz
      have hge : ¬ 0 ≤ n := by omega
      clear hs
      go_wp2_with fail
      refine (fixed06_calls _ HT3.out).mono ?_
      rintro e w5 ⟨rfl, hb5⟩
      have B5 := hid (B3.out.trans (hb5.mono B3.out.size))
      have HT5 := hid (HT3.out.below hb5)
      clear hb5
      go_wp2_with fail
      refine (digits_calls n h0 h1 _ HT5.out).mono ?_
      rintro e w6 ⟨rfl, hb6⟩
      rw [HX.out]
      have B6 := hid (B5.out.trans (hb6.mono B5.out.size))
      clear hb6
      go_wp2_with fail
      refine (rDigits_calls n h0 h1 _).mono ?_
      rintro e w7 ⟨rfl, hw7⟩
      subst hw7
      rw [HX.out]
      go_wp2_with fail
      go_ret
      exact ⟨rfl, B6.out⟩
    · have hge : 0 ≤ n := by omega
      have hgt : 9999999 < n := by omega
      have hgt' : decide (n ≤ 9999999) = false := by simp; omega
      have hz : ¬ n = 0 := by omega
      have hz' : ¬ 0 = n := by omega
      have hz2 : ((0 : Int) == n) = false := by simpa using hz'
      have hz3 : (n == (0 : Int)) = false := by simpa using hz
      clear hs
      go_wp2_with fail
      refine (fixed06_calls _ HT3.out).mono ?_
      rintro e w5 ⟨rfl, hb5⟩
      have B5 := hid (B3.out.trans (hb5.mono B3.out.size))
      have HT5 := hid (HT3.out.below hb5)
      clear hb5
      go_wp2_with fail
      refine (digits_calls n h0 h1 _ HT5.out).mono ?_
      rintro e w6 ⟨rfl, hb6⟩
      rw [HX.out]
      have B6 := hid (B5.out.trans (hb6.mono B5.out.size))
      clear hb6
      go_wp2_with fail
      refine (rDigits_calls n h0 h1 _).mono ?_
      rintro e w7 ⟨rfl, hw7⟩
      subst hw7
      rw [HX.out]
      go_wp2_with fail
      go_ret
      exact ⟨rfl, B6.out⟩
end Go.Proofs.YtjbcjlpincblcaaDoor
