/-
  The walk of the law ClassMore.
-/
import Derived.Test.YtedapokahgokgaaClF
import Derived.Test.YtedapokahgokgaaClR1
import Derived.Test.YtedapokahgokgaaClR2
import Derived.Test.YtedapokahgokgaaClM
import Derived.Deep.RegionHeld3
namespace Go.Proofs.Ytedapokahgokgaa
open Go.RowKit
set_option linter.unusedVariables false

theorem more_own {w : World} {b : Nat} {e : TypeId} {v : Value} {n : Nat} {L H C : Nat → Int} {x y z : Int} (h : w.ownsRow b e 3 v (0 + n + 1) ([] ++ fvals L H C n ++ (#[.int .i64 x, .int .i64 y, .int .i64 z] : Array Value).toList)) :
    w.ownsRow b e 3 v (n + 1) (fvals (Cl.ext L n x) (Cl.ext H n y) (Cl.ext C n z) (n + 1)) := by
  have e : fvals (Cl.ext L n x) (Cl.ext H n y) (Cl.ext C n z) (n + 1) = [] ++ fvals L H C n ++ (#[.int .i64 x, .int .i64 y, .int .i64 z] : Array Value).toList := by
    rw [← fvals_snoc, Cl.ext_at, Cl.ext_at, Cl.ext_at, fvals_congr (L' := L) (H' := H) (C' := C) (fun i hi => Cl.ext_lt hi) (fun i hi => Cl.ext_lt hi) (fun i hi => Cl.ext_lt hi)]
    rfl
  rw [e, show n + 1 = 0 + n + 1 by omega]
  exact h

set_option maxRecDepth 100000 in
set_option maxHeartbeats 4000000 in
theorem classMore_calls (a : Option Addr) (n cap : Nat) (L H C : Nat → Int) (x y z p : Int) (w : World) (h : Rs w a n cap L H C) :
    Calls Try.prog 5 #[.slice a n cap, .agg #[.int .i64 x, .int .i64 y, .int .i64 z], .int .i64 p] w fun e w' => e = .returned (.bool true) ∧ Below w.heap.size w w' := by
  obtain ⟨i0, hi0, hz0, hz1, hz2⟩ := info_parts Try.infoR
  have R0 := hid h
  clear h
  have B0 := hid ((Below.refl w.heap.size w).alloc (Nat.le_refl _) (.cells #[.int .i64 x, .int .i64 y, .int .i64 z] 31))
  by_cases hb0 : 199 < n
  · have hb0' : (199 : Int) < n := by omega
    go_enter Try.func5, Try.ntmps5
    go_wp2_with fail
    refine (fixed02_calls _).mono ?_
    rintro e w' ⟨rfl, hb⟩
    go_wp2_with fail
    go_ret
    exact ⟨rfl, B0.out.trans (hb.mono B0.out.size)⟩
  have hb0' : ¬ (199 : Int) < n := by omega
  cases hm : Cl.may L H C n
  · have HM := hid hm
    clear hm
    go_enter Try.func5, Try.ntmps5
    go_wp2_with fail
    refine (rmay_calls a n cap L H C _ (R0.out.below B0.out)).mono ?_
    rintro e w1 ⟨rfl, b1⟩
    rw [HM.out]
    have B1 := hid (B0.out.trans (b1.mono B0.out.size))
    clear b1
    go_wp2_with fail
    refine (fixed02_calls _).mono ?_
    rintro e w' ⟨rfl, hb⟩
    go_wp2_with fail
    go_ret
    exact ⟨rfl, B1.out.trans (hb.mono B1.out.size)⟩
  · have HM := hid hm
    clear hm
    go_enter Try.func5, Try.ntmps5
    go_wp2_with fail
    refine (rmay_calls a n cap L H C _ (R0.out.below B0.out)).mono ?_
    rintro e w1 ⟨rfl, b1⟩
    rw [HM.out]
    have B1 := hid (B0.out.trans (b1.mono B0.out.size))
    have q0 : w1.cell? ⟨w.heap.size, 0, none⟩ = some (.int .i64 x) := by rw [b1.cell (p := ⟨w.heap.size, 0, none⟩) (by simp)]; simp
    have q1 : w1.cell? ⟨w.heap.size, 1, none⟩ = some (.int .i64 y) := by rw [b1.cell (p := ⟨w.heap.size, 1, none⟩) (by simp)]; simp
    have q2 : w1.cell? ⟨w.heap.size, 2, none⟩ = some (.int .i64 z) := by rw [b1.cell (p := ⟨w.heap.size, 2, none⟩) (by simp)]; simp
    have hs1 : w.heap.size < w1.heap.size := by have := b1.size; simp at this; omega
    clear b1
    go_wp2_with fail
    have hle1 : w.heap.size ≤ w1.heap.size := Nat.le_of_lt hs1
    have R1 := hid (R0.out.below B1.out)
    have hmx : n + 1 ≤ maxLen := by unfold maxLen; omega
    go_region_held3 (fun w' => w'.cell? ⟨w.heap.size, 0, none⟩ = some (.int .i64 x) ∧ w'.cell? ⟨w.heap.size, 1, none⟩ = some (.int .i64 y) ∧ w'.cell? ⟨w.heap.size, 2, none⟩ = some (.int .i64 z))
      (first
        | go_keep
        | (go_split_ands
           refine ⟨?_, ?_, ?_⟩
           · (rw [hg1.cell_far _ (by simp; omega) (by simp [Value.ownBlock]; omega)]; assumption)
           · (rw [hg1.cell_far _ (by simp; omega) (by simp [Value.ownBlock]; omega)]; assumption)
           · (rw [hg1.cell_far _ (by simp; omega) (by simp [Value.ownBlock]; omega)]; assumption))
        | (go_split_ands
           refine ⟨?_, ?_, ?_⟩
           · (rw [hg2.cell_far _ (by have := hg1.size; simp at this ⊢; omega) (fun e => by have := (ho1.lt _ e.symm).1; simp at this; omega)]; assumption)
           · (rw [hg2.cell_far _ (by have := hg1.size; simp at this ⊢; omega) (fun e => by have := (ho1.lt _ e.symm).1; simp at this; omega)]; assumption)
           · (rw [hg2.cell_far _ (by have := hg1.size; simp at this ⊢; omega) (fun e => by have := (ho1.lt _ e.symm).1; simp at this; omega)]; assumption)))
      (first
        | (refine step_append_src (by rfl) _ _ _ (by rfl) w1.heap.size 31 i0 _ 3 24 Try.underlying22 hi0 hz0 hz1 hz2 rfl (by omega) (.slice (some ⟨w1.heap.size, 0, none⟩) 0 0) 0 [] (by rfl) ((own_empty w1.heap.size rfl (Nat.le_refl _)).drew) a n cap (fvals L H C n) (by rfl) ((R1.out.below (((Below.refl w1.heap.size w1).alloc (Nat.le_refl _) _).drew)).src) (by omega) (by omega) (by simp) ?_; intro v1 W1 ho1 hg1 ha1)
        | (refine step_append_src (by rfl) _ _ _ (by rfl) w1.heap.size 31 i0 _ 3 24 Try.underlying22 hi0 hz0 hz1 hz2 rfl (by omega) (.slice (some ⟨w1.heap.size + 1, 0, none⟩) 0 0) 0 [] (by rfl) ((own_empty (w := w1.alloc (.cells #[.int .i64 x, .int .i64 y, .int .i64 z] 31)) (w1.heap.size + 1) (by simp) (by simp)).drew) a n cap (fvals L H C n) (by rfl) ((R1.out.below ((((Below.refl w1.heap.size w1).alloc (Nat.le_refl _) _).alloc (by simp) _).drew)).src) (by omega) (by omega) (by simp; omega) ?_; intro v1 W1 ho1 hg1 ha1)
        | (refine step_append_src (by rfl) _ _ _ (by rfl) w1.heap.size 31 i0 _ 3 24 Try.underlying22 hi0 hz0 hz1 hz2 rfl (by omega) (.slice (some ⟨w1.heap.size, 0, none⟩) 0 0) 0 [] (by rfl) (((own_empty w1.heap.size rfl (Nat.le_refl _)).alloc (.cells #[.int .i64 x, .int .i64 y, .int .i64 z] 31)).drew) a n cap (fvals L H C n) (by rfl) ((R1.out.below ((((Below.refl w1.heap.size w1).alloc (Nat.le_refl _) _).alloc (by simp) _).drew)).src) (by omega) (by omega) (by simp; omega) ?_; intro v1 W1 ho1 hg1 ha1)
        | (refine step_append_src (by rfl) _ _ _ (by rfl) w1.heap.size 31 i0 _ 3 24 Try.underlying22 hi0 hz0 hz1 hz2 rfl (by omega) v1 _ _ (by rfl) (ho1.alloc _) (some ⟨W1.heap.size, 0, none⟩) 1 1 (#[.int .i64 x, .int .i64 y, .int .i64 z].toList) (by rfl) (Src.new (w := W1) #[.int .i64 x, .int .i64 y, .int .i64 z] 31 W1.heap.size rfl rfl (by simp [Value.oneCell'])) (by omega) (by omega) (by have := hg1.size; simp at this ⊢; omega) ?_; intro v2 W2 ho2 hg2 ha2)
        | (refine step_append_src (by rfl) _ _ _ (by rfl) w1.heap.size 31 i0 _ 3 24 Try.underlying22 hi0 hz0 hz1 hz2 rfl (by omega) v1 _ _ (by rfl) ho1 (some ⟨w1.heap.size, 0, none⟩) 1 1 (#[.int .i64 x, .int .i64 y, .int .i64 z].toList) (by rfl) (((Src.new (w := w1) #[.int .i64 x, .int .i64 y, .int .i64 z] 31 w1.heap.size rfl rfl (by simp [Value.oneCell'])).below (((Below.refl _ _).alloc (Nat.le_refl _) _).drew)).grown hg1 (by simp [Value.ownBlock])) (by omega) (by omega) (by have := hg1.size; simp at this ⊢; omega) ?_; intro v2 W2 ho2 hg2 ha2)
        | (refine step_append_src (by rfl) _ _ _ (by rfl) w1.heap.size 31 i0 _ 3 24 Try.underlying22 hi0 hz0 hz1 hz2 rfl (by omega) v1 _ _ (by rfl) ho1 (some ⟨w1.heap.size + 1, 0, none⟩) 1 1 (#[.int .i64 x, .int .i64 y, .int .i64 z].toList) (by rfl) (((Src.new (w := w1.alloc (.cells #[] 31)) #[.int .i64 x, .int .i64 y, .int .i64 z] 31 (w1.heap.size + 1) (by simp) rfl (by simp [Value.oneCell'])).below ((Below.refl _ _).drew)).grown hg1 (by simp [Value.ownBlock])) (by omega) (by omega) (by have := hg1.size; simp at this ⊢; omega) ?_; intro v2 W2 ho2 hg2 ha2)
        | fail)
    all_goals
      have B2 : Hid (Below w.heap.size w W2) := by
        have row : ∀ k, v1.ownBlock = some k → w1.heap.size ≤ k := fun k hk => (ho1.lt k hk).1
        have hsz := hg1.size
        have b : Below w1.heap.size w1 W2 := by
          first
            | exact (((((Below.refl w1.heap.size w1).alloc (Nat.le_refl _) _).drew).grown hg1 (by simp) (fun k hk => by simp [Value.ownBlock] at hk; omega)).alloc (by simp at hsz; omega) _).grown hg2 (by simp at hsz ⊢; omega) row
            | exact ((((((Below.refl w1.heap.size w1).alloc (Nat.le_refl _) _).alloc (by simp) _).drew).grown hg1 (by simp; omega) (fun k hk => by simp [Value.ownBlock] at hk; omega))).grown hg2 (by simp at hsz ⊢; omega) row
        exact hid (B1.out.trans (b.mono hle1))
      have Q2 : Hid (W2.cell? ⟨w.heap.size, 0, none⟩ = some (.int .i64 x) ∧ W2.cell? ⟨w.heap.size, 1, none⟩ = some (.int .i64 y) ∧ W2.cell? ⟨w.heap.size, 2, none⟩ = some (.int .i64 z)) := hid (by assumption)
      have hsW : Hid (w.heap.size < W2.heap.size) := hid (World.block_lt_of_cell? _ _ Q2.out.1)
      obtain ⟨a2, c2, hv2, r2⟩ := Rs.ofOwn (more_own ho2)
      have R2 := hid r2
      clear r2 ho1 hg1 ha1 ho2 hg2 ha2 q0 q1 q2 R1
      subst hv2
      cases hm2 : Cl.may (Cl.ext L n x) (Cl.ext H n y) (Cl.ext C n z) (n + 1)
      · have HM2 := hid hm2
        have E := hid (show Cl.of (Cl.ext L n x) (Cl.ext H n y) (Cl.ext C n z) (n + 1) p = 0 by unfold Cl.of; rw [hm2]; rfl)
        clear hm2
        go_wp2_with fail
        refine (rmay_calls a2 (n + 1) c2 _ _ _ _ R2.out).mono ?_
        rintro e w3 ⟨rfl, b3⟩
        rw [HM2.out]
        have R3 := hid (R2.out.below b3)
        have B3 := hid (B2.out.trans (b3.mono B2.out.size))
        clear b3
        go_wp2_with fail
        refine (fixed02_calls _).mono ?_
        rintro e w4 ⟨rfl, b4⟩
        have R4 := hid (R3.out.below b4)
        have B4 := hid (B3.out.trans (b4.mono B3.out.size))
        clear b4
        go_wp2_with fail
        refine (of_calls a2 (n + 1) c2 _ _ _ p _ R4.out).mono ?_
        rintro e w5 ⟨rfl, b5⟩
        rw [E.out]
        have R5 := hid (R4.out.below b5)
        have B5 := hid (B4.out.trans (b5.mono B4.out.size))
        clear b5
        go_wp2_with fail
        refine (may_calls a2 (n + 1) c2 _ _ _ _ R5.out).mono ?_
        rintro e w6 ⟨rfl, b6⟩
        rw [HM2.out]
        have B6 := hid (B5.out.trans (b6.mono B5.out.size))
        clear b6
        go_wp2_with fail
        go_ret
        exact ⟨rfl, B6.out⟩
      · have HM2 := hid hm2
        have E := hid (Cl.of_more (p := p) HM.out hm2)
        clear hm2
        go_wp2_with fail
        refine (rmay_calls a2 (n + 1) c2 _ _ _ _ R2.out).mono ?_
        rintro e w3 ⟨rfl, b3⟩
        rw [HM2.out]
        have R3 := hid (R2.out.below b3)
        have B3 := hid (B2.out.trans (b3.mono B2.out.size))
        have Q3 := hid (show w3.cell? ⟨w.heap.size, 0, none⟩ = some (.int .i64 x) ∧ w3.cell? ⟨w.heap.size, 1, none⟩ = some (.int .i64 y) ∧ w3.cell? ⟨w.heap.size, 2, none⟩ = some (.int .i64 z) by rw [b3.cell (p := ⟨w.heap.size, 0, none⟩) hsW.out, b3.cell (p := ⟨w.heap.size, 1, none⟩) hsW.out, b3.cell (p := ⟨w.heap.size, 2, none⟩) hsW.out]; exact Q2.out)
        clear b3
        go_wp2_with fail
        refine (of_calls a n cap L H C p _ (R0.out.below B3.out)).mono ?_
        rintro e w4 ⟨rfl, b4⟩
        have R4 := hid (R3.out.below b4)
        have B4 := hid (B3.out.trans (b4.mono B3.out.size))
        obtain ⟨q0, q1, q2⟩ := (show w4.cell? ⟨w.heap.size, 0, none⟩ = some (.int .i64 x) ∧ w4.cell? ⟨w.heap.size, 1, none⟩ = some (.int .i64 y) ∧ w4.cell? ⟨w.heap.size, 2, none⟩ = some (.int .i64 z) by
          have hs3 := World.block_lt_of_cell? _ _ Q3.out.1
          rw [b4.cell (p := ⟨w.heap.size, 0, none⟩) hs3, b4.cell (p := ⟨w.heap.size, 1, none⟩) hs3, b4.cell (p := ⟨w.heap.size, 2, none⟩) hs3]; exact Q3.out)
        clear b4
        by_cases hin : x ≤ p ∧ p ≤ y
        · have E2 := hid (E.out.trans (if_pos hin))
          obtain ⟨i1, i2⟩ := hin
          clear E
          go_wp2_with fail
          refine (fixed02_calls _).mono ?_
          rintro e w5 ⟨rfl, b5⟩
          have R5 := hid (R4.out.below b5)
          have B5 := hid (B4.out.trans (b5.mono B4.out.size))
          clear b5
          go_wp2_with fail
          refine (of_calls a2 (n + 1) c2 _ _ _ p _ R5.out).mono ?_
          rintro e w6 ⟨rfl, b6⟩
          rw [E2.out]
          have B6 := hid (B5.out.trans (b6.mono B5.out.size))
          clear b6
          go_wp2_with fail
          go_ret
          exact ⟨rfl, B6.out⟩
        · have E2 := hid (E.out.trans (if_neg hin))
          clear E
          by_cases i1 : x ≤ p
          · have i2 : ¬ p ≤ y := fun i2 => hin ⟨i1, i2⟩
            clear hin
            go_wp2_with fail
            refine (fixed02_calls _).mono ?_
            rintro e w5 ⟨rfl, b5⟩
            have R5 := hid (R4.out.below b5)
            have B5 := hid (B4.out.trans (b5.mono B4.out.size))
            clear b5
            go_wp2_with fail
            refine (of_calls a2 (n + 1) c2 _ _ _ p _ R5.out).mono ?_
            rintro e w6 ⟨rfl, b6⟩
            rw [E2.out]
            have B6 := hid (B5.out.trans (b6.mono B5.out.size))
            clear b6
            go_wp2_with fail
            go_ret
            exact ⟨rfl, B6.out⟩
          · clear hin
            go_wp2_with fail
            refine (fixed02_calls _).mono ?_
            rintro e w5 ⟨rfl, b5⟩
            have R5 := hid (R4.out.below b5)
            have B5 := hid (B4.out.trans (b5.mono B4.out.size))
            clear b5
            go_wp2_with fail
            refine (of_calls a2 (n + 1) c2 _ _ _ p _ R5.out).mono ?_
            rintro e w6 ⟨rfl, b6⟩
            rw [E2.out]
            have B6 := hid (B5.out.trans (b6.mono B5.out.size))
            clear b6
            go_wp2_with fail
            go_ret
            exact ⟨rfl, B6.out⟩
end Go.Proofs.Ytedapokahgokgaa
