/-
  Walk of renew: an entry becomes the newest.
-/
import Derived.Test.YtbcanfelfdalbaaCaM
import Derived.BigRegion
import Derived.Deep.QuietTactic
import Derived.BigQuiet
namespace Go.Proofs.Ytbcanfelfdalbaa
open Go.RowKit Go.Maps Ca
set_option linter.unusedVariables false
/-- What two stores of a number into rows of entries want, and leave. -/
theorem ca_two {w : World} {B M g cap n room h m : Nat} {e e1 e2 : Nat → En} (H : Cr w B M g cap n room h m e) {j1 j2 : Nat} {u1 u2 : Value} (h1 : (ke e n).set j1 u1 = ke e1 n) (h2 : (ke e1 n).set j2 u2 = ke e2 n) (l1 : j1 < n * 4) (l2 : j2 < n * 4) :
    w.frozen? ⟨g, j1, none⟩ = false ∧ (∃ u, w.cell? ⟨g, j1, none⟩ = some u) ∧ (w.setCell ⟨g, j1, none⟩ u1).frozen? ⟨g, j2, none⟩ = false ∧ (∃ u, (w.setCell ⟨g, j1, none⟩ u1).cell? ⟨g, j2, none⟩ = some u) ∧
    Cr ((w.setCell ⟨g, j1, none⟩ u1).setCell ⟨g, j2, none⟩ u2).drew B M g cap n room h m e2 ∧ Mut (fun k => k = g) w ((w.setCell ⟨g, j1, none⟩ u1).setCell ⟨g, j2, none⟩ u2).drew := by
  have H1 := H.set h1
  have H2 := H1.set h2
  exact ⟨H.fz _, H.any l1, H1.fz _, H1.any l2, H2.drew, ((Mut.set w g j1 u1 (S := fun k => k = g) rfl).trans (Mut.set _ g j2 u2 (S := fun k => k = g) rfl) (fun _ _ e => e)).drew⟩
section
variable {w : World} {B M g cap n room h m a : Nat} {e : Nat → En}
set_option maxRecDepth 100000 in
set_option maxHeartbeats 3200000 in
theorem renew_calls (H : Cr w B M g cap n room h m e) (ha : a < n) (ho : (e a).o < n) (hq : (e a).n < n) (ht : (mid e a 0).o < n) (hn : n ≤ 2000000) :
    Calls Try.prog 23 #[.pointer (some ⟨B, 0, none⟩), .int .i64 (a : Int)] w fun r w' => r = .returned (.tuple #[]) ∧ Cr w' B M g cap n room h m (rn e a) ∧ Mut (fun k => k = g) w w' := by
  obtain ⟨-, -, c2, -, -⟩ := H.cells
  obtain ⟨-, -, p2, p3⟩ := H.cell ha
  obtain ⟨o, hoo⟩ : ∃ o, (e a).o = o := ⟨_, rfl⟩
  obtain ⟨q, hqq⟩ : ∃ q, (e a).n = q := ⟨_, rfl⟩
  obtain ⟨t, htt⟩ : ∃ t, (mid e a 0).o = t := ⟨_, rfl⟩
  rw [hoo] at p2 ho
  rw [hqq] at p3 hq
  rw [htt] at ht
  have HH := hid H
  have EQ := hid (show mid e a = sO (sN e o q) q o ∧ rn e a = sO (sN (sN (sO (mid e a) a t) a 0) t a) 0 a from ⟨by rw [← hoo, ← hqq]; rfl, by rw [← htt]; rfl⟩)
  have TT := hid htt
  clear H hoo hqq htt
  have k0 : (0 : Int) ≤ a := by omega
  have k1 : (a : Int) < n := by omega
  have k2 : (0 : Int) ≤ o := by omega
  have k3 : (o : Int) < n := by omega
  have k4 : (0 : Int) ≤ q := by omega
  have k5 : (q : Int) < n := by omega
  have k6 : (0 : Int) ≤ t := by omega
  have k7 : (t : Int) < n := by omega
  have k8 : (0 : Int) < n := by omega
  go_enter Try.func23, Try.ntmps23
  go_wp2_with fail
  go_quiet (fail)
  have H1 := hid (HH.out.below (below_drewN (Below.refl _ _) nq))
  have M1 := hid (Mut.drewN (fun k => k = g) w nq)
  clear HH c2 p2 p3
  generalize w.drewN nq = w1 at *
  obtain ⟨-, -, c2, -, -⟩ := H1.out.cells
  obtain ⟨f1, ⟨u1, d1⟩, f2, ⟨u2, d2⟩, H2, M2⟩ := ca_two H1.out (ke_set3 e n o q) (ke_set2 _ n q o) (by omega) (by omega)
  obtain ⟨w2, hw2⟩ : ∃ W, ((w1.setCell ⟨g, o * 4 + 3, none⟩ (.int .i64 (q : Int))).setCell ⟨g, q * 4 + 2, none⟩ (.int .i64 (o : Int))).drew = W := ⟨_, rfl⟩
  rw [hw2] at H2 M2
  rw [← EQ.out.1] at H2
  have H3 := hid H2
  have M3 := hid (M1.out.trans M2 (fun _ _ e => e))
  clear H2 M2 H1 M1
  go_wp2_with fail
  go_region
  clear hw2 f1 d1 f2 d2 c2
  obtain ⟨-, -, c2, -, -⟩ := H3.out.cells
  have p2 := (H3.out.cell (i := 0) (by omega)).2.2.1
  rw [TT.out] at p2
  obtain ⟨f1, ⟨u1, d1⟩, f2, ⟨u2, d2⟩, H4, M4⟩ := ca_two H3.out (ke_set2 (mid e a) n a t) (ke_set3 _ n a 0) (by omega) (by omega)
  obtain ⟨w4, hw4⟩ : ∃ W, ((w2.setCell ⟨g, a * 4 + 2, none⟩ (.int .i64 (t : Int))).setCell ⟨g, a * 4 + 3, none⟩ (.int .i64 0)).drew = W := ⟨_, rfl⟩
  replace H4 : Cr w4 B M g cap n room h m (sN (sO (mid e a) a t) a 0) := by rw [← hw4]; exact H4
  replace M4 : Mut (fun k => k = g) w2 w4 := by rw [← hw4]; exact M4
  have H5 := hid H4
  have M5 := hid (M3.out.trans M4 (fun _ _ e => e))
  clear H4 M4 H3 M3
  go_wp2_with fail
  go_region
  clear hw4 f1 d1 f2 d2 c2 p2
  obtain ⟨-, -, c2, -, -⟩ := H5.out.cells
  obtain ⟨f1, ⟨u1, d1⟩, f2, ⟨u2, d2⟩, H6, M6⟩ := ca_two H5.out (ke_set3 _ n t a) (ke_set2 _ n 0 a) (by omega) (by omega)
  obtain ⟨w6, hw6⟩ : ∃ W, ((w4.setCell ⟨g, t * 4 + 3, none⟩ (.int .i64 (a : Int))).setCell ⟨g, 2, none⟩ (.int .i64 (a : Int))).drew = W := ⟨_, rfl⟩
  rw [← EQ.out.2] at H6
  replace H6 : Cr w6 B M g cap n room h m (rn e a) := by rw [← hw6]; exact H6
  replace M6 : Mut (fun k => k = g) w4 w6 := by rw [← hw6]; exact M6
  have H7 := hid H6
  have M7 := hid (M5.out.trans M6 (fun _ _ e => e))
  clear H6 M6 H5 M5
  go_wp2_with fail
  go_region
  clear hw6 f1 d1 f2 d2 c2
  go_wp2_with fail
  go_end0
  exact ⟨rfl, H7.out, M7.out⟩
end
end Go.Proofs.Ytbcanfelfdalbaa
