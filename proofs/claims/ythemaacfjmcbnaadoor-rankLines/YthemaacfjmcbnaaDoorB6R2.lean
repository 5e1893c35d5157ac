/-
  Walks of the reference's signs, last, begins.
-/
import Derived.Test.YthemaacfjmcbnaaDoorSlX
import Derived.Test.YthemaacfjmcbnaaDoorB6R0
import Derived.Test.YthemaacfjmcbnaaDoorB6MathC
import Derived.Test.YthemaacfjmcbnaaDoorSb
namespace Go.Proofs.YthemaacfjmcbnaaDoor
open Go.RowKit
set_option linter.unusedVariables false


set_option maxRecDepth 100000 in
set_option maxHeartbeats 1600000 in
theorem signs_calls (s : ByteArray) (n : Nat) (f : Nat → Int) (w : World) (hn : n ≤ 100000) (hS : St s n f) :
    Calls Tryd.prog 43 #[.string s] w fun e w' => Says e (∀ i, i < n → 0 ≤ B6.val (f i)) ∧ w' = w := by
  obtain ⟨hsz, hget, hbd⟩ := hS
  have HBD := hid hbd
  clear hbd
  go_enter Tryd.func43, Tryd.ntmps43
  go_wp2_with fail
  go_loopg [3] n (fun r iv wr => ∃ i : Nat, i ≤ n ∧ r = n - i ∧ iv = .int .i64 i ∧ Hid (∀ j, j < i → 0 ≤ B6.val (f j)) ∧ w = wr)
  case atStart => exact ⟨0, by omega, by omega, rfl, hid (fun j hj => absurd hj (by omega)), rfl⟩
  case round =>
    obtain ⟨i, hi, rfl, rfl, HA, rfl⟩ := hrel
    by_cases hlt : i < n
    · have h1 : (i : Int) < n := by omega
      have h0 : (0 : Int) ≤ i := by omega
      have hb := HBD.out i
      go_wp2_with fail
      refine (value_calls _ hb.1 hb.2 _).mono ?_
      rintro e w ⟨rfl, rfl⟩
      obtain ⟨v, hv⟩ : ∃ v, B6.val (f i) = v := ⟨_, rfl⟩
      rw [hv]
      have HV := hid hv
      clear hv
      by_cases hneg : v < 0
      · go_wp2_with fail
        go_ret
        exact ⟨Says.no (fun h => by have := h i hlt; rw [HV.out] at this; omega), rfl⟩
      · go_wp2_with fail
        go_roundg (n - (i + 1))
        case measure => omega
        case rel =>
          refine ⟨i + 1, by omega, rfl, by go_num, hid (fun j hj => ?_), rfl⟩
          by_cases e : j = i
          · subst e; rw [HV.out]; omega
          · exact HA.out j (by omega)
    · obtain rfl : i = n := by omega
      have h1 : ¬ (i : Int) < i := by omega
      go_wp2_with fail
      go_ret
      exact ⟨Says.yes HA.out, rfl⟩

set_option maxRecDepth 100000 in
set_option maxHeartbeats 3200000 in
theorem last_calls (s : ByteArray) (m : Nat) (f : Nat → Int) (w : World) (h1 : 1 ≤ m) (h4 : m ≤ 4) (hS : St s m f) :
    Calls Tryd.prog 44 #[.string s] w fun e w' => Says e (m ≤ B6.fp (f 0) (f 1) (f 2) (f 3)) ∧ w' = w := by
  have HS := hid hS
  obtain ⟨hsz, hget, hbd⟩ := hS
  have HBD := hid hbd
  clear hbd
  have E1 := hid (B6.fp_1 (f 0) (f 1) (f 2) (f 3))
  have E2 := hid (B6.fp_2 (f 0) (f 1) (f 2) (f 3))
  have E3 := hid (B6.fp_3 (f 0) (f 1) (f 2) (f 3))
  have E4 := hid (B6.fp_4 (f 0) (f 1) (f 2) (f 3))
  go_enter Tryd.func44, Tryd.ntmps44
  go_wp2_with fail
  refine (signs_calls s m f _ (by omega) HS.out).mono ?_
  rintro e w ⟨hb, rfl⟩
  rcases hb.of with ⟨rfl, q⟩ | ⟨rfl, q⟩
  · have Q := hid q
    clear hb q
    go_wp2_with fail
    go_ret
    refine ⟨Says.yes ?_, rfl⟩
    have q := Q.out
    obtain rfl | rfl | rfl | rfl : m = 1 ∨ m = 2 ∨ m = 3 ∨ m = 4 := by omega
    · exact E1.out.2 (q 0 (by omega))
    · exact E2.out.2 ⟨q 0 (by omega), q 1 (by omega)⟩
    · exact E3.out.2 ⟨q 0 (by omega), q 1 (by omega), Or.inl (q 2 (by omega))⟩
    · exact E4.out.2 ⟨q 0 (by omega), q 1 (by omega), Or.inl ⟨q 2 (by omega), q 3 (by omega)⟩⟩
  have Q := hid q
  clear hb q
  by_cases hm3 : m < 3
  · have hm3' : (m : Int) < 3 := by omega
    go_wp2_with fail
    go_ret
    refine ⟨Says.no fun hle => ?_, rfl⟩
    refine Q.out fun i hi => ?_
    obtain rfl | rfl : m = 1 ∨ m = 2 := by omega
    · have := E1.out.1 hle
      obtain rfl : i = 0 := by omega
      exact this
    · have := E2.out.1 hle
      obtain rfl | rfl : i = 0 ∨ i = 1 := by omega
      · exact this.1
      · exact this.2
  have hm3' : ¬ (m : Int) < 3 := by omega
  have HX2 := hid (HS.out.extract 0 2 (by omega) (by omega))
  have HX3 := hid (HS.out.extract 0 3 (by omega) (by omega))
  have hq2 : (2 : Int) ≤ m := by omega
  have hq3 : (3 : Int) ≤ m := by omega
  go_wp2_with fail
  refine (signs_calls _ _ _ _ (by omega) HX2.out).mono ?_
  rintro e w ⟨hb2, rfl⟩
  rcases hb2.of with ⟨rfl, q2⟩ | ⟨rfl, q2⟩
  rotate_left
  · have Q2 := hid q2
    clear hb2 q2
    go_wp2_with fail
    go_ret
    refine ⟨Says.no fun hle => Q2.out fun i hi => ?_, rfl⟩
    have := E2.out.1 (by omega)
    obtain rfl | rfl : i = 0 ∨ i = 1 := by omega
    · simpa using this.1
    · simpa using this.2
  have q20 := q2 0 (by omega)
  have q21 := q2 1 (by omega)
  simp only [Nat.zero_add] at q20 q21
  have Q0 := hid q20
  have Q1 := hid q21
  clear hb2 q2 q20 q21
  by_cases hc : f 2 = 61
  · have b1 := HBD.out 1
    obtain ⟨v, hv⟩ : ∃ v, B6.val (f 1) = v := ⟨_, rfl⟩
    have hv0 : 0 ≤ v := by rw [← hv]; exact Q1.out
    have hvt : v.tmod 16 = v % 16 := Int.tmod_eq_emod_of_nonneg hv0
    have HV := hid hv
    have HC := hid hc
    clear hv
    go_wp2_with fail
    refine (value_calls _ b1.1 b1.2 _).mono ?_
    rintro e w ⟨rfl, rfl⟩
    rw [HV.out]
    by_cases h16 : v % 16 = 0
    · by_cases hm : m = 3
      · subst hm
        go_wp2_with fail
        go_ret
        exact ⟨Says.yes (E3.out.2 ⟨Q0.out, Q1.out, Or.inr ⟨HC.out, by rw [HV.out]; exact h16⟩⟩), rfl⟩
      · obtain rfl : m = 4 := by omega
        by_cases hd : f 3 = 61
        · have HD := hid hd
          go_wp2_with fail
          go_ret
          exact ⟨Says.yes (E4.out.2 ⟨Q0.out, Q1.out, Or.inr (Or.inl ⟨HC.out, by rw [HV.out]; exact h16, HD.out⟩)⟩), rfl⟩
        · have hd' : (f 3 == 61) = false := by simpa using hd
          have HD := hid hd
          go_wp2_with fail
          go_ret
          refine ⟨Says.no fun hle => ?_, rfl⟩
          have hv61 : B6.val (f 2) = -1 := by rw [HC.out]; exact B6.val_pad
          rcases (E4.out.1 hle).2.2 with q | q | q
          · omega
          · exact HD.out q.2.2
          · omega
    · have h16' : (v % 16 == 0) = false := by simpa using h16
      have H16 := hid h16
      go_wp2_with fail
      go_ret
      refine ⟨Says.no fun hle => ?_, rfl⟩
      have hv61 : B6.val (f 2) = -1 := by rw [HC.out]; exact B6.val_pad
      rcases (E3.out.1 (by omega)).2.2 with q | q
      · omega
      · have := q.2; rw [HV.out] at this; exact H16.out this
  have hc' : (f 2 == 61) = false := by simpa using hc
  have HC := hid hc
  by_cases hm : m = 3
  · subst hm
    go_wp2_with fail
    go_ret
    refine ⟨Says.no fun hle => ?_, rfl⟩
    rcases (E3.out.1 hle).2.2 with q | q
    · refine Q.out fun i hi => ?_
      obtain rfl | rfl | rfl : i = 0 ∨ i = 1 ∨ i = 2 := by omega
      · exact Q0.out
      · exact Q1.out
      · exact q
    · exact HC.out q.1
  obtain rfl : m = 4 := by omega
  go_wp2_with fail
  refine (signs_calls _ _ _ _ (by omega) HX3.out).mono ?_
  rintro e w ⟨hb3, rfl⟩
  rcases hb3.of with ⟨rfl, q3⟩ | ⟨rfl, q3⟩
  rotate_left
  · have Q3 := hid q3
    clear hb3 q3
    go_wp2_with fail
    go_ret
    refine ⟨Says.no fun hle => Q3.out fun i hi => ?_, rfl⟩
    have hv : 0 ≤ B6.val (f 2) := by
      rcases (E3.out.1 (by omega)).2.2 with q | q
      · exact q
      · exact absurd q.1 HC.out
    obtain rfl | rfl | rfl : i = 0 ∨ i = 1 ∨ i = 2 := by omega
    · simpa using Q0.out
    · simpa using Q1.out
    · simpa using hv
  have q32 := q3 2 (by omega)
  simp only [Nat.zero_add] at q32
  have Q2 := hid q32
  clear hb3 q3 q32
  by_cases hd : f 3 = 61
  · have b2 := HBD.out 2
    obtain ⟨v, hv⟩ : ∃ v, B6.val (f 2) = v := ⟨_, rfl⟩
    have hv0 : 0 ≤ v := by rw [← hv]; exact Q2.out
    have hvt : v.tmod 4 = v % 4 := Int.tmod_eq_emod_of_nonneg hv0
    have HV := hid hv
    have HD := hid hd
    clear hv
    go_wp2_with fail
    refine (value_calls _ b2.1 b2.2 _).mono ?_
    rintro e w ⟨rfl, rfl⟩
    rw [HV.out]
    by_cases h4 : v % 4 = 0
    · go_wp2_with fail
      go_ret
      exact ⟨Says.yes (E4.out.2 ⟨Q0.out, Q1.out, Or.inr (Or.inr ⟨Q2.out, HD.out, by rw [HV.out]; exact h4⟩)⟩), rfl⟩
    · have h4' : (v % 4 == 0) = false := by simpa using h4
      have H4 := hid h4
      go_wp2_with fail
      go_ret
      refine ⟨Says.no fun hle => ?_, rfl⟩
      have hv61 : B6.val (f 3) = -1 := by rw [HD.out]; exact B6.val_pad
      rcases (E4.out.1 hle).2.2 with q | q | q
      · omega
      · exact HC.out q.1
      · have := q.2.2; rw [HV.out] at this; exact H4.out this
  · have hd' : (f 3 == 61) = false := by simpa using hd
    have HD := hid hd
    go_wp2_with fail
    go_ret
    refine ⟨Says.no fun hle => ?_, rfl⟩
    rcases (E4.out.1 hle).2.2 with q | q | q
    · refine Q.out fun i hi => ?_
      obtain rfl | rfl | rfl | rfl : i = 0 ∨ i = 1 ∨ i = 2 ∨ i = 3 := by omega
      · exact Q0.out
      · exact Q1.out
      · exact q.1
      · exact q.2
    · exact HC.out q.1
    · exact HD.out q.2.1
end Go.Proofs.YthemaacfjmcbnaaDoor
