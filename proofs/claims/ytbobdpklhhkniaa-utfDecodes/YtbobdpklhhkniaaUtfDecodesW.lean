/-
  The walk of the law UtfDecodes.
-/
import Derived.Test.YtbobdpklhhkniaaUtfW6
import Derived.Test.YtbobdpklhhkniaaUtfR5
namespace Go.Proofs.Ytbobdpklhhkniaa
open Go.RowKit
set_option linter.unusedVariables false

set_option maxHeartbeats 1000000 in
theorem utfDecodes_calls (a0 : Option Addr) (n0 c0 : Nat) (f0 : Nat → Int) (fin : Bool) (w : World) (h0 : Sl w a0 n0 c0 f0) :
    Calls Try.prog 3 #[.slice a0 n0 c0, .bool fin] w fun e w' => e = .returned (.bool true) ∧ Below w.heap.size w w' := by
  have hcv := run_convert_sl (P := Try.prog) w 22 5 9 Try.underlying22 Try.underlying5 Try.underlying9 h0
  have H0 := hid h0
  clear h0
  by_cases hb0 : 2000 < n0
  · have hb0' : (2000 : Int) < n0 := by omega
    clear hcv
    go_enter Try.func3, Try.ntmps3
    go_wp2_with fail
    refine (fixed_calls _).mono ?_
    rintro e w' ⟨rfl, hb⟩
    go_wp2_with fail
    go_ret
    exact ⟨rfl, hb⟩
  have hb0' : ¬ (2000 : Int) < n0 := by omega
  obtain ⟨⟨p, m, mo⟩, hd⟩ : ∃ d, Utf.dec f0 n0 fin = d := ⟨_, rfl⟩
  have HD := hid hd
  clear hd
  go_enter Try.func3, Try.ntmps3
  go_wp2_with fail
  refine (decode_calls a0 n0 c0 f0 fin _ H0.out).mono ?_
  rintro e w ⟨rfl, rfl⟩
  rw [HD.out]
  unfold D3
  go_wp2_with fail
  refine (refDecode_calls (str f0 n0) n0 f0 fin _ (St.of H0.out.bd n0) (by unfold maxLen; omega)).mono ?_
  rintro e w1 ⟨rfl, hb1⟩
  rw [HD.out]
  unfold DA
  go_wp2_with fail
  refine (fixed_calls _).mono ?_
  rintro e w2 ⟨rfl, hb2⟩
  obtain ⟨hc, hf⟩ := Old.both hb2
  simp at hc hf
  go_wp2_with fail
  go_ret
  exact ⟨rfl, (hb1.alloc hb1.size _).trans (hb2.mono (by have := hb1.size; simp; omega))⟩
end Go.Proofs.Ytbobdpklhhkniaa
