/-
  The walk of the law LineLines.
-/
import Derived.Test.YtjbcjlpincblcaaDoorLnF
import Derived.Deep.RegionHeld3
namespace Go.Proofs.YtjbcjlpincblcaaDoor
open Go.RowKit
set_option linter.unusedVariables false

/-- 'string(b)' in every world in which old memory is as it was. -/
theorem cv_any {w : World} {a : Option Addr} {n c : Nat} {f : Nat → Int} (h : Sl w a n c f) {X : ByteArray} (hX : str f n = X) {w' : World} (hb : Below w.heap.size w w') :
    (convert 22 9 (.slice a n c)).run Tryd.prog w' = .ok (.string X) w' := by
  rw [← hX]
  exact run_convert_sl (P := Tryd.prog) w' 22 5 9 Tryd.underlying22 Tryd.underlying5 Tryd.underlying9 (h.below hb)
theorem lns_len (s : ByteArray) : (lns s).length ≤ s.size + 1 := by
  unfold lns Ln.lines
  split
  · simp
  · have h1 := pcs_len 10 (Ln.trim (by_ s)) []
    have h2 : (Ln.trim (by_ s)).length ≤ (by_ s).length := by
      unfold Ln.trim
      split
      · simp
      · exact Nat.le_refl _
    rw [by_length] at h2
    rw [List.length_map]
    omega
theorem Ts.drewN {w : World} {a : Option Addr} {n c : Nat} {xs : List ByteArray} (h : Ts w a n c xs) (d : Nat) : Ts (w.drewN d) a n c xs := h.below (below_drewN (Below.refl _ _) d)

set_option maxRecDepth 100000 in
set_option maxHeartbeats 3200000 in
theorem lineLines_calls (a0 : Option Addr) (n0 c0 : Nat) (f0 : Nat → Int) (w : World) (h0 : Sl w a0 n0 c0 f0) (ht : Tab w) :
    Calls Tryd.prog 3 #[.slice a0 n0 c0] w fun e w' => e = .returned (.bool true) ∧ Below w.heap.size w w' := by
  have S0 := hid h0
  have HT := hid ht
  clear h0 ht
  by_cases hb0 : 2000 < n0
  · have hb0' : (2000 : Int) < n0 := by omega
    go_enter Tryd.func3, Tryd.ntmps3
    go_wp2_with fail
    refine (fixed06_calls _ HT.out).mono ?_
    rintro e w' ⟨rfl, hb⟩
    go_wp2_with fail
    go_ret
    exact ⟨rfl, hb⟩
  have hb0' : ¬ (2000 : Int) < n0 := by omega
  obtain ⟨X, hX⟩ : ∃ X, str f0 n0 = X := ⟨_, rfl⟩
  have hXs : X.size = n0 := by rw [← hX]; exact str_size f0 n0
  have HX := hid hX
  have hll := lns_len X
  clear hX
  have hbd : Below w.heap.size w w.drew := (Below.refl _ _).drew
  have D0 := hid hbd
  have S1 := hid (S0.out.below hbd)
  have T1 := hid (HT.out.below hbd)
  clear hbd
  go_enter Tryd.func3, Tryd.ntmps3
  go_wp2_with fail
  go_region_held3 (fun w' => (convert 22 9 (.slice a0 n0 c0)).run Tryd.prog w' = .ok (.string X) w') (first | exact cv_any S0.out HX.out D0.out | exact cv_any S0.out HX.out B1.out | exact cv_any S0.out HX.out B2.out | exact cv_any S0.out HX.out B3.out | exact cv_any S0.out HX.out B4.out) (first | (go_at_call 7; refine (fixed06_calls _ T1.out).mono ?_; rintro e w1 ⟨rfl, hb1⟩; have B1 := hid (D0.out.trans hb1); clear hb1) | (go_at_call 9; refine (lines_calls _ _ _ f0 _ (by omega) (S0.out.below B1.out)).mono ?_; rintro e w2 ⟨a2, k2, c2, rfl, t2, hb2⟩; have B2 := hid (B1.out.trans (hb2.mono B1.out.size)); have T2 := hid t2; clear t2 hb2) | (go_at_call 10; refine (rlines_calls X _ (by omega)).mono ?_; rintro e w3 ⟨a3, k3, c3, rfl, t3, hb3⟩; have B3 := hid (B2.out.trans (hb3.mono B2.out.size)); have T3 := hid t3; have T23 := hid (T2.out.below hb3); clear t3 hb3; rw [HX.out] at T23; have hk : k3 = k2 := T3.out.len.symm.trans T23.out.len; subst hk; have hk0 := T3.out.len) | (go_at_call 8; refine (same_yes T23.out T3.out (by omega)).mono ?_; rintro e w4 ⟨rfl, d4, hw4⟩; have B4 : Hid (Below w.heap.size w w4) := (by rw [hw4]; exact below_drewN B3.out d4); clear hw4))
  go_wp2_with fail
  go_ret
  exact ⟨rfl, B4.out⟩
end Go.Proofs.YtjbcjlpincblcaaDoor
