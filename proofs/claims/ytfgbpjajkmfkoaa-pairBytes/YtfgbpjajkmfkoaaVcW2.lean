/-
  Walks of cmp.Or at int, vocab.compare, the function of mayMerges, vocab.holds at merges, vocab.mayMerge.
-/
import Derived.Test.YtfgbpjajkmfkoaaVcW1
import Derived.Deep.QuietTactic
import Derived.BigQuiet
import Derived.Deep.RegionHeld3
import Derived.Sort.Grow
namespace Go.Proofs.Ytfgbpjajkmfkoaa
open Go.RowKit
set_option linter.unusedVariables false

theorem or_calls (x y z : Int) (B : Nat) (w : World) (c0 : w.cell? ⟨B, 0, none⟩ = some (.int .i64 x)) (c1 : w.cell? ⟨B, 1, none⟩ = some (.int .i64 y)) (c2 : w.cell? ⟨B, 2, none⟩ = some (.int .i64 z)) :
    Calls Try.prog 53 #[.slice (some ⟨B, 0, none⟩) 3 3] w fun e w' => e = .returned (.int .i64 (Vc.orI x (Vc.orI y z))) ∧ w' = w := by
  by_cases hx : x = 0
  · by_cases hy : y = 0
    · have HE := hid (show Vc.orI x (Vc.orI y z) = z by unfold Vc.orI; rw [if_pos hx, if_pos hy])
      subst hx hy
      by_cases hz : z = 0
      · subst hz
        go_enter Try.func53, Try.ntmps53
        go_wp2
        refine wp_loop_rounds 4 ?_
        rw [rounds_succ]
        go_wp2
        rw [rounds_succ]
        go_wp2
        rw [rounds_succ]
        go_wp2
        rw [rounds_succ]
        go_wp2
        go_ret
        exact ⟨by rw [HE.out]; rfl, rfl⟩
      · have dz : (z == 0) = false := by simpa using hz
        go_enter Try.func53, Try.ntmps53
        go_wp2
        refine wp_loop_rounds 3 ?_
        rw [rounds_succ]
        go_wp2
        rw [rounds_succ]
        go_wp2
        rw [rounds_succ]
        go_wp2
        go_ret
        exact ⟨by rw [HE.out]; rfl, rfl⟩
    · have HE := hid (show Vc.orI x (Vc.orI y z) = y by unfold Vc.orI; rw [if_pos hx, if_neg hy])
      subst hx
      have dy : (y == 0) = false := by simpa using hy
      go_enter Try.func53, Try.ntmps53
      go_wp2
      refine wp_loop_rounds 2 ?_
      rw [rounds_succ]
      go_wp2
      rw [rounds_succ]
      go_wp2
      go_ret
      exact ⟨by rw [HE.out]; rfl, rfl⟩
  · have HE := hid (show Vc.orI x (Vc.orI y z) = x by unfold Vc.orI; rw [if_neg hx])
    have dx : (x == 0) = false := by simpa using hx
    go_enter Try.func53, Try.ntmps53
    go_wp2
    refine wp_loop_rounds 1 ?_
    rw [rounds_succ]
    go_wp2
    go_ret
    exact ⟨by rw [HE.out]; rfl, rfl⟩

theorem or_new (x y z : Int) (B : Nat) (t : TypeId) (W : World) (hB : B = W.heap.size) :
    Calls Try.prog 53 #[.slice (some ⟨B, 0, none⟩) 3 3] (W.alloc (.cells #[.int .i64 x, .int .i64 y, .int .i64 z] t)).drew fun e w' => e = .returned (.int .i64 (Vc.orI x (Vc.orI y z))) ∧ w' = (W.alloc (.cells #[.int .i64 x, .int .i64 y, .int .i64 z] t)).drew := by
  subst hB
  have h := Bx3.new W t (.int .i64 x) (.int .i64 y) (.int .i64 z)
  exact or_calls x y z W.heap.size _ h.cell0 h.cell1 h.cell2

/-- New blocks and draws alone. -/
theorem grow_of {w w' : World} (h : Below w.heap.size w w') (hd : w.drawn ≤ w'.drawn) : ∃ q os', w' = Sort.grow (w.drewN q) os' := by
  refine ⟨w'.drawn - w.drawn, w'.heap.extract w.heap.size w'.heap.size, ?_⟩
  obtain ⟨hp', tp', dr', os', ou'⟩ := w'
  obtain ⟨hp, tp, dr, os, ou⟩ := w
  have h1 := h.os
  have h2 := h.tape
  have h3 := h.output
  have h4 := h.size
  have h5 := h.block
  simp only at h1 h2 h3 h4 h5 hd
  subst h1 h2 h3
  simp only [Sort.grow, World.drewN, World.mk.injEq, and_true, true_and]
  refine ⟨?_, by omega⟩
  apply Array.ext_getElem?
  intro i
  by_cases hi : i < hp.size
  · rw [h5 i hi, Array.getElem?_append_left hi]
  · rw [Array.getElem?_append_right (by omega), Array.getElem?_extract]
    split
    · congr 1; omega
    · rw [Array.getElem?_eq_none (by omega)]

set_option maxHeartbeats 3200000 in
theorem compare_calls (l1 r1 o1 d1 l2 r2 o2 d2 : Int) (w : World) :
    Calls Try.prog 44 #[.agg #[.int .i64 l1, .int .i64 r1, .int .i64 o1, .int .i64 d1], .agg #[.int .i64 l2, .int .i64 r2, .int .i64 o2, .int .i64 d2]] w fun e w' => e = .returned (.int .i64 (Vc.cmp (l1, r1, o1, d1) (l2, r2, o2, d2))) ∧ (Below w.heap.size w w' ∧ w.drawn ≤ w'.drawn) := by
  have B0 := hid (((Below.refl w.heap.size w).alloc (Nat.le_refl _) (.cells #[.int .i64 l1, .int .i64 r1, .int .i64 o1, .int .i64 d1] 34)).alloc (by simp) (.cells #[.int .i64 l2, .int .i64 r2, .int .i64 o2, .int .i64 d2] 34))
  have X1 := hid ((Bx4.new w 34 (.int .i64 l1) (.int .i64 r1) (.int .i64 o1) (.int .i64 d1)).alloc (.cells #[.int .i64 l2, .int .i64 r2, .int .i64 o2, .int .i64 d2] 34))
  have X2 := hid (Bx4.new (w.alloc (.cells #[.int .i64 l1, .int .i64 r1, .int .i64 o1, .int .i64 d1] 34)) 34 (.int .i64 l2) (.int .i64 r2) (.int .i64 o2) (.int .i64 d2))
  have HD := hid (show w.drawn ≤ ((w.alloc (.cells #[.int .i64 l1, .int .i64 r1, .int .i64 o1, .int .i64 d1] 34)).alloc (.cells #[.int .i64 l2, .int .i64 r2, .int .i64 o2, .int .i64 d2] 34)).drawn from Nat.le_refl _)
  go_enter Try.func44, Try.ntmps44
  go_wp2_with fail
  go_region_held3 (fun w' => w'.cell? ⟨w.heap.size, 3, none⟩ = some (.int .i64 d1) ∧ w'.cell? ⟨w.heap.size, 0, none⟩ = some (.int .i64 l1) ∧ w'.cell? ⟨w.heap.size, 1, none⟩ = some (.int .i64 r1) ∧ w'.cell? ⟨w.heap.size + 1, 3, none⟩ = some (.int .i64 d2) ∧ w'.cell? ⟨w.heap.size + 1, 0, none⟩ = some (.int .i64 l2) ∧ w'.cell? ⟨w.heap.size + 1, 1, none⟩ = some (.int .i64 r2)) (first | go_keep | simp) (first | (go_at_call 54; refine (cmpInt_calls _ _ _).mono ?_; rintro e w2 ⟨rfl, rfl⟩) | (go_at_call 53; refine (or_new _ _ _ _ _ _ (by simp)).mono ?_; rintro e w2 ⟨rfl, rfl⟩))
  go_wp2_with fail
  go_ret
  refine ⟨rfl, ?_, ?_⟩
  · exact (B0.out.alloc (by simp; omega) _).drew
  · exact Nat.le_trans HD.out (Nat.le_add_right _ 1)
end Go.Proofs.Ytfgbpjajkmfkoaa
