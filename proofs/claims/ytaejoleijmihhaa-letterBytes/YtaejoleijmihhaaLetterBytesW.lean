/-
  The walk of the law LetterBytes.
-/
import Derived.Test.YtaejoleijmihhaaLeF
namespace Go.Proofs.Ytaejoleijmihhaa
open Go.RowKit
set_option linter.unusedVariables false

set_option maxRecDepth 100000 in
set_option maxHeartbeats 1600000 in
theorem letterBytes_calls (b p : Int) (h0 : 0 ≤ b) (h1 : b ≤ 255) (w : World) :
    Calls Try.prog 3 #[.int .u8 b, .int .i64 p] w fun e w' => e = .returned (.bool true) ∧ Below w.heap.size w w' := by
  obtain ⟨n, rfl⟩ := Int.eq_ofNat_of_zero_le h0
  have HB := hid (Le.byt_ltr h0 h1)
  obtain ⟨q, hq⟩ : ∃ q, Le.ltr n = q := ⟨_, rfl⟩
  rw [hq] at HB
  have HQ := hid hq
  clear hq
  go_enter Try.func3, Try.ntmps3
  go_wp2_with fail
  refine (lof_calls _ h0 h1 _).mono ?_
  rintro e w ⟨rfl, rfl⟩
  rw [HQ.out]
  go_wp2_with fail
  refine (lbyte_calls _ _).mono ?_
  rintro e w ⟨rfl, rfl⟩
  rw [HB.out, B2_y h0]
  go_wp2_with fail
  refine (lbyte_calls _ _).mono ?_
  rintro e w ⟨rfl, rfl⟩
  obtain ⟨x, hx⟩ : ∃ x, Le.byt p = x := ⟨_, rfl⟩
  have bb := Le.byt_bd p
  rw [hx] at bb ⊢
  have HX := hid hx
  clear hx
  by_cases hy : 0 ≤ x
  · rw [B2_y hy]
    have hm : max x 0 = x := by omega
    go_wp2_with fail
    refine (rbyte_calls _ _).mono ?_
    rintro e w ⟨rfl, rfl⟩
    rw [HX.out]
    go_wp2_with fail
    refine (fixed04_calls _).mono ?_
    rintro e w1 ⟨rfl, hb1⟩
    go_wp2_with fail
    refine (lof_calls _ h0 h1 _).mono ?_
    rintro e w1 ⟨rfl, rfl⟩
    rw [HQ.out]
    go_wp2_with fail
    refine (rof_calls n (by omega) _).mono ?_
    rintro e w1 ⟨rfl, rfl⟩
    rw [HQ.out]
    go_wp2_with fail
    go_ret
    exact ⟨rfl, hb1⟩
  · rw [B2_n (by omega)]
    obtain rfl : x = -1 := by omega
    go_wp2_with fail
    refine (rbyte_calls _ _).mono ?_
    rintro e w ⟨rfl, rfl⟩
    rw [HX.out]
    go_wp2_with fail
    refine (fixed04_calls _).mono ?_
    rintro e w1 ⟨rfl, hb1⟩
    go_wp2_with fail
    refine (lof_calls _ h0 h1 _).mono ?_
    rintro e w1 ⟨rfl, rfl⟩
    rw [HQ.out]
    go_wp2_with fail
    refine (rof_calls n (by omega) _).mono ?_
    rintro e w1 ⟨rfl, rfl⟩
    rw [HQ.out]
    go_wp2_with fail
    go_ret
    exact ⟨rfl, hb1⟩
end Go.Proofs.Ytaejoleijmihhaa
