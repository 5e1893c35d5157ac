/-
  The walk of the law Base64Reads.
-/
import Derived.Test.YtanccppmfgghgaaB6R4
namespace Go.Proofs.Ytanccppmfgghgaa
open Go.RowKit
set_option linter.unusedVariables false

set_option maxRecDepth 100000 in
set_option maxHeartbeats 1600000 in
theorem base64Reads_calls (s : ByteArray) (w : World) :
    Calls Try.prog 4 #[.string s] w fun e w' => e = .returned (.bool true) ∧ Below w.heap.size w w' := by
  obtain ⟨n, hn⟩ : ∃ n, s.size = n := ⟨_, rfl⟩
  have HS := hid (St.any s)
  rw [hn] at HS
  by_cases hbig : 500 < n
  · have hb' : (500 : Int) < n := by omega
    go_enter Try.func4, Try.ntmps4
    go_wp2_with fail
    refine (fixed03_calls _).mono ?_
    rintro e w' ⟨rfl, hb⟩
    go_wp2_with fail
    go_ret
    exact ⟨rfl, hb⟩
  have hb' : ¬ (500 : Int) < n := by omega
  go_enter Try.func4, Try.ntmps4
  go_wp2_with fail
  refine (b6decode_calls s n (bytesF s) _ (by omega) HS.out).mono ?_
  rintro e w1 ⟨ho, hb1⟩
  have B1 := hid hb1
  clear hb1
  rcases ho with ⟨hg, a, c, rfl, hsl⟩ | ⟨p, hp, rfl⟩
  · have HG := hid hg
    have SL := hid hsl
    obtain ⟨X, hX⟩ : ∃ X, str (B6.decF (bytesF s)) (B6.decN (bytesF s) n) = X := ⟨_, rfl⟩
    have HX := hid hX
    have hXX : (X.toList == X.toList) = true := beq_self_eq_true _
    clear hg hsl hX
    go_wp2_with fail
    refine (rdecode_good s n (bytesF s) _ (by omega) HS.out HG.out).mono ?_
    rintro e w2 ⟨rfl, hb2⟩
    rw [HX.out]
    have B2 := hid (B1.out.trans (hb2.mono B1.out.size))
    have SL2 := hid (SL.out.below hb2)
    clear hb2
    go_wp2_with fail
    refine (fixed03_calls _).mono ?_
    rintro e w3 ⟨rfl, hb3⟩
    have B3 := hid (B2.out.trans (hb3.mono B2.out.size))
    have cv := run_convert_sl (P := Try.prog) w3 22 5 9 Try.underlying22 Try.underlying5 Try.underlying9 (SL2.out.below hb3)
    rw [HX.out] at cv
    clear hb3
    go_wp2_with fail
    go_ret
    exact ⟨rfl, B3.out⟩
  · have HP := hid hp
    clear hp
    have c0 := fun w => run_convert_bytes_nil (P := Try.prog) w 22 5 Try.underlying22 Try.underlying5 0 0 9 Try.underlying9
    go_wp2_with fail
    refine (rdecode_bad s n p (bytesF s) _ (by omega) HS.out HP.out).mono ?_
    rintro e w1 ⟨rfl, rfl⟩
    go_wp2_with fail
    refine (fixed03_calls _).mono ?_
    rintro e w3 ⟨rfl, hb3⟩
    have B3 := hid (B1.out.trans (hb3.mono B1.out.size))
    clear hb3
    go_wp2_with fail
    go_ret
    exact ⟨rfl, B3.out⟩
end Go.Proofs.Ytanccppmfgghgaa
