/-
  The walk of the reference's whole.
-/
import Derived.Test.YtaejoleijmihhaaUtfR2
import Derived.Test.YtaejoleijmihhaaUtfMathB
namespace Go.Proofs.Ytaejoleijmihhaa
open Go.RowKit
set_option linter.unusedVariables false

set_option maxHeartbeats 400000 in
theorem whole_calls (s : ByteArray) (m n : Nat) (f : Nat → Int) (w : World) (h1 : 1 ≤ n) (h4 : n ≤ 4) (hnm : n ≤ m) (hS : St s m f) (hl : m ≤ maxLen) :
    Calls Try.prog 28 #[.string s, .int .i64 n] w fun e w' => (∃ r : Int, e = .returned (.int .i64 r) ∧ Utf.WR f n r) ∧ Below w.heap.size w w' := by
  have HS := hid hS
  have hsz := hS.size
  clear hS
  have hl' := hl
  unfold maxLen at hl'
  have hn' : (n : Int) ≤ s.size := by omega
  go_enter Try.func28, Try.ntmps28
  go_wp2_with fail
  refine (bits_calls s m n f _ h1 h4 hnm HS.out hl).mono ?_
  rintro e w ⟨⟨q, rfl, hq⟩, rfl⟩
  have HQ := hid hq
  clear hq
  cases hp : Utf.isPt q
  · go_wp2_with fail
    refine (refEncode_no q _ hp).mono ?_
    rintro e w ⟨rfl, rfl⟩
    go_wp2_with fail
    go_ret
    exact ⟨⟨-1, rfl, q, HQ.out, Or.inr ⟨fun h => absurd (hp.symm.trans h.1) (by simp), rfl⟩⟩, Below.refl _ _⟩
  · go_wp2_with fail
    refine (refEncode_yes q _ hp).mono ?_
    rintro e w1 ⟨rfl, hb⟩
    have hq2 := (Utf.isPt_iff q).1 hp
    have s1 := St.of (Utf.encF_bd q hq2.1 hq2.2.1) (Utf.encN q)
    have s2 := HS.out.extract 0 n (by omega) hnm
    clear hq2
    by_cases hf : Utf.Fit f n q
    · have hX : ((str (Utf.encF q) (Utf.encN q)).toList == (s.extract 0 n).toList) = true := (s1.beq_iff s2).2 ⟨by rw [hf.2.1]; omega, fun i hi => by rw [hf.2.2 i (by rw [← hf.2.1]; exact hi), Nat.zero_add]⟩
      clear s1 s2
      have HF := hid hf
      clear hf
      go_wp2_with fail
      go_ret
      exact ⟨⟨q, rfl, q, HQ.out, Or.inl ⟨HF.out, rfl⟩⟩, hb⟩
    · have hX : ((str (Utf.encF q) (Utf.encN q)).toList == (s.extract 0 n).toList) = false := s1.beq_no s2 (fun h => hf ⟨hp, by have := h.1; omega, fun i hi => by rw [h.2 i (by have := h.1; omega), Nat.zero_add]⟩)
      clear s1 s2
      have HF := hid hf
      clear hf
      go_wp2_with fail
      go_ret
      exact ⟨⟨-1, rfl, q, HQ.out, Or.inr ⟨HF.out, rfl⟩⟩, hb⟩
end Go.Proofs.Ytaejoleijmihhaa
