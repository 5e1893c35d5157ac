/-
  Stage 12's law ScanNexts, walked.
-/
import Derived.Test.YtlomdihpdaealaaDoorScFx
import Derived.Test.YtlomdihpdaealaaDoorScR9
namespace Go.Proofs.YtlomdihpdaealaaDoor
open Go.RowKit
set_option linter.unusedVariables false
set_option maxRecDepth 100000 in
set_option maxHeartbeats 3200000 in
theorem scanNexts_calls {w : World} {ta ba : Option Addr} {tn tc bn bc : Nat} {L H C f : Nat → Int} (kind : Int) (T : Rs w ta tn tc L H C) (B : Sl w ba bn bc f) (fin : Bool) (hE : Ends w) :
    Calls Tryd.prog 3 #[.int .i64 kind, .slice ta tn tc, .slice ba bn bc, .bool fin] w fun e w' => e = .returned (.bool true) ∧ Below w.heap.size w w' := by
  have HT := hid T
  have HBy := hid B
  have HE := hid hE
  have h1 := Nat.le_trans T.le T.mx
  have h2 := Nat.le_trans B.le B.mx
  clear T B hE
  go_enter Tryd.func3, Tryd.ntmps3
  go_wp2_with fail
  refine (great_calls h1 h2).mono ?_
  rintro e w ⟨rfl, rfl⟩
  cases hg : greatB tn bn with
  | true =>
    clear hg
    go_wp2_with fail
    refine (fixed12_calls HE.out).mono ?_
    rintro e w1 ⟨rfl, b1⟩
    have HB1 := hid b1
    clear b1
    go_wp2_with fail
    go_ret
    exact ⟨rfl, HB1.out⟩
  | false =>
    have hs : bn ≤ 100000 := by
      have : ¬ (80 < tn ∨ 200 < bn) := of_decide_eq_false hg
      omega
    clear hg
    obtain ⟨q, hq⟩ : ∃ q, Sc.nx (Cl.of L H C tn) (Cl.may L H C tn) kind f bn fin = q := ⟨_, rfl⟩
    have HQ := hid hq
    clear hq
    go_wp2_with fail
    refine (next_calls kind HT.out HBy.out hs HE.out fin).mono ?_
    rintro e w1 ⟨rfl, b1⟩
    rw [HQ.out]
    unfold NX
    have HB1 := hid b1
    have hcv := run_convert_sl (P := Tryd.prog) w1 23 5 9 Tryd.underlying23 Tryd.underlying5 Tryd.underlying9 (HBy.out.below b1)
    have T1 := hid (HT.out.below b1)
    have HS := hid (St.of HBy.out.bd bn)
    clear b1
    go_wp2_with fail
    refine (rnext_calls kind HS.out T1.out hs fin).mono ?_
    rintro e w2 ⟨rfl, b2⟩
    rw [HQ.out]
    unfold NX
    have HB2 := hid (HB1.out.trans (b2.mono HB1.out.size))
    have HE2 := hid (HE.out.below HB2.out (Nat.le_refl _))
    clear b2 hcv
    go_wp2_with fail
    refine (fixed12_calls HE2.out).mono ?_
    rintro e w3 ⟨rfl, b3⟩
    have HB3 := hid (HB2.out.trans (b3.mono HB2.out.size))
    clear b3
    go_wp2_with fail
    go_ret
    exact ⟨rfl, HB3.out⟩
end Go.Proofs.YtlomdihpdaealaaDoor
