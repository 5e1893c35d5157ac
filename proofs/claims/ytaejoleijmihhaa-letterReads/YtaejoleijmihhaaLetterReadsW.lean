/-
  The walk of the law LetterReads.
-/
import Derived.Test.YtaejoleijmihhaaLeF
import Derived.Test.YtaejoleijmihhaaLeR
namespace Go.Proofs.Ytaejoleijmihhaa
open Go.RowKit
set_option linter.unusedVariables false

set_option maxRecDepth 100000 in
set_option maxHeartbeats 1600000 in
theorem letterReads_calls (s : ByteArray) (w : World) :
    Calls Try.prog 5 #[.string s] w fun e w' => e = .returned (.bool true) ∧ Below w.heap.size w w' := by
  obtain ⟨n, hn⟩ : ∃ n, s.size = n := ⟨_, rfl⟩
  have HS := hid (St.any s)
  rw [hn] at HS
  by_cases hbig : 300 < n
  · have hb' : (300 : Int) < n := by omega
    go_enter Try.func5, Try.ntmps5
    go_wp2_with fail
    refine (fixed04_calls _).mono ?_
    rintro e w' ⟨rfl, hb⟩
    go_wp2_with fail
    go_ret
    exact ⟨rfl, hb⟩
  have hb' : ¬ (300 : Int) < n := by omega
  go_enter Try.func5, Try.ntmps5
  go_wp2_with fail
  refine (lread_calls s n (bytesF s) _ (by omega) HS.out).mono ?_
  rintro e w1 ⟨ho, hb1⟩
  have B1 := hid hb1
  clear hb1
  rcases ho with ⟨g, k, hg, a, c, rfl, hsl⟩ | ⟨p, hp, rfl⟩
  · have HG := hid hg
    have SL := hid hsl
    obtain ⟨X, hX⟩ : ∃ X, str g k = X := ⟨_, rfl⟩
    have HX := hid hX
    have hXX : (X.toList == X.toList) = true := beq_self_eq_true _
    clear hg hsl hX
    go_wp2_with fail
    refine (rread_calls s n (bytesF s) _ (by omega) HS.out).mono ?_
    rintro e w2 ⟨ho2, hb2⟩
    obtain rfl : e = .returned (.tuple #[.string X, .int .i64 0, .bool true]) := by
      rcases ho2 with ⟨g', k', hg', rfl⟩ | ⟨p, hp, _⟩
      · obtain ⟨rfl, hs⟩ := HG.out.same hg'
        rw [str_congr hs, HX.out]
      · exact (Le.bad_not HG.out hp).elim
    have B2 := hid (B1.out.trans (hb2.mono B1.out.size))
    have SL2 := hid (SL.out.below hb2)
    clear hb2 ho2
    go_wp2_with fail
    refine (fixed04_calls _).mono ?_
    rintro e w3 ⟨rfl, hb3⟩
    have B3 := hid (B2.out.trans (hb3.mono B2.out.size))
    have cv := run_convert_sl (P := Try.prog) w3 28 5 9 Try.underlying28 Try.underlying5 Try.underlying9 (SL2.out.below hb3)
    rw [HX.out] at cv
    clear hb3
    go_wp2_with fail
    go_ret
    exact ⟨rfl, B3.out⟩
  · have HP := hid hp
    clear hp
    have c0 := fun w => run_convert_bytes_nil (P := Try.prog) w 28 5 Try.underlying28 Try.underlying5 0 0 9 Try.underlying9
    go_wp2_with fail
    refine (rread_calls s n (bytesF s) _ (by omega) HS.out).mono ?_
    rintro e w2 ⟨ho2, hb2⟩
    obtain rfl : e = .returned (.tuple #[.string ⟨#[]⟩, .int .i64 (p : Nat), .bool false]) := by
      rcases ho2 with ⟨g', k', hg', _⟩ | ⟨q, hq, rfl⟩
      · exact (Le.bad_not hg' HP.out).elim
      · rw [Le.bad_one hq HP.out]
    have B2 := hid (B1.out.trans (hb2.mono B1.out.size))
    clear hb2 ho2
    go_wp2_with fail
    refine (fixed04_calls _).mono ?_
    rintro e w3 ⟨rfl, hb3⟩
    have B3 := hid (B2.out.trans (hb3.mono B2.out.size))
    clear hb3
    go_wp2_with fail
    go_ret
    exact ⟨rfl, B3.out⟩
end Go.Proofs.Ytaejoleijmihhaa
