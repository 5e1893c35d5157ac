/-
  Several texts in one: VcW1, VcW2, VcW3, VcW4, VcW5, VcW6, VcW7, VcW10, VcKy, VcW8, VcW9, VcW11.
-/
import Derived.Test.YtcjakjmhghoilaaLotV
import Derived.Test.YtcjakjmhghoilaaChecked
import Derived.Deep.LoopGhost
import Derived.Deep.QuietTactic
import Derived.BigQuiet
import Derived.Deep.RegionHeld3
import Derived.Sort.Grow
import Derived.Sort.Walk0
import Derived.DeepKeys5
import Derived.MapViews
/-
  Walks of vocab.Bytes, Name, ID, Of, isEmpty, maySign, mayName, mayNumber; of cmp.Compare at int.
-/
namespace Go.Proofs.Ytcjakjmhghoilaa
open Go.RowKit
set_option linter.unusedVariables false


theorem maySign_calls (k : Int) (w : World) : Calls Try.prog 80 #[.int .u8 k] w fun e w' => Says e (Vc.SignOk k) ∧ w' = w := by
  by_cases h0 : 97 ≤ k ∧ k ≤ 122
  · obtain ⟨a, b⟩ := h0
    go_enter Try.func80, Try.ntmps80
    go_wp2_with fail
    go_ret
    exact ⟨Says.yes (.inl ⟨a, b⟩), rfl⟩
  · by_cases h1 : 48 ≤ k ∧ k ≤ 57
    · obtain ⟨a, b⟩ := h1
      have d1 : decide ((97 : Int) ≤ k) = false := decide_eq_false (by omega)
      have d2 : ¬ (97 : Int) ≤ k := by omega
      go_enter Try.func80, Try.ntmps80
      go_wp2_with fail
      go_ret
      exact ⟨Says.yes (.inr (.inl ⟨a, b⟩)), rfl⟩
    · by_cases h2 : k = 95
      · subst h2
        go_enter Try.func80, Try.ntmps80
        go_wp2_with fail
        go_ret
        exact ⟨Says.yes (.inr (.inr rfl)), rfl⟩
      · have HN := hid (show ¬ Vc.SignOk k from fun h => by rcases h with h | h | h; exact h0 h; exact h1 h; exact h2 h)
        have d5 : (k == 95) = false := by simpa using h2
        by_cases q0 : 97 ≤ k
        · have q1 : ¬ k ≤ 122 := by omega
          have q2 : ¬ k ≤ 57 := by omega
          have q3 : (48 : Int) ≤ k := by omega
          have d2 : decide (k ≤ (122 : Int)) = false := decide_eq_false q1
          have d3 : decide (k ≤ (57 : Int)) = false := decide_eq_false q2
          clear h0 h1
          go_enter Try.func80, Try.ntmps80
          go_wp2_with fail
          go_ret
          exact ⟨Says.no HN.out, rfl⟩
        · have d2 : decide ((97 : Int) ≤ k) = false := decide_eq_false q0
          by_cases q3 : (48 : Int) ≤ k
          · have q2 : ¬ k ≤ 57 := by omega
            have d3 : decide (k ≤ (57 : Int)) = false := decide_eq_false q2
            clear h0 h1
            go_enter Try.func80, Try.ntmps80
            go_wp2_with fail
            go_ret
            exact ⟨Says.no HN.out, rfl⟩
          · have d3 : decide ((48 : Int) ≤ k) = false := decide_eq_false q3
            clear h0 h1
            go_enter Try.func80, Try.ntmps80
            go_wp2_with fail
            go_ret
            exact ⟨Says.no HN.out, rfl⟩

theorem isNaN_calls (k : Int) (w : World) : Calls Try.prog 82 #[.int .i64 k] w fun e w' => e = .returned (.bool false) ∧ w' = w := by
  go_enter Try.func82, Try.ntmps82
  go_wp2_with fail
  go_ret
  simp
theorem cmpInt_calls (x y : Int) (w : World) : Calls Try.prog 78 #[.int .i64 x, .int .i64 y] w fun e w' => e = .returned (.int .i64 (Vc.cmpI x y)) ∧ w' = w := by
  by_cases h1 : x < y
  · have HE := hid (show Vc.cmpI x y = -1 by unfold Vc.cmpI; rw [if_pos h1])
    go_enter Try.func78, Try.ntmps78
    go_wp2_with (go_at_call 82; refine (isNaN_calls _ _).mono ?_; rintro e w2 ⟨rfl, rfl⟩)
    go_ret
    exact ⟨by rw [HE.out]; rfl, rfl⟩
  · have d1 : decide (x < y) = false := decide_eq_false h1
    by_cases h2 : y < x
    · have HE := hid (show Vc.cmpI x y = 1 by unfold Vc.cmpI; rw [if_neg h1, if_pos h2])
      go_enter Try.func78, Try.ntmps78
      go_wp2_with (go_at_call 82; refine (isNaN_calls _ _).mono ?_; rintro e w2 ⟨rfl, rfl⟩)
      go_ret
      exact ⟨by rw [HE.out]; rfl, rfl⟩
    · have HE := hid (show Vc.cmpI x y = 0 by unfold Vc.cmpI; rw [if_neg h1, if_neg h2])
      have d2 : decide (y < x) = false := decide_eq_false h2
      go_enter Try.func78, Try.ntmps78
      go_wp2_with (go_at_call 82; refine (isNaN_calls _ _).mono ?_; rintro e w2 ⟨rfl, rfl⟩)
      go_ret
      exact ⟨by rw [HE.out]; rfl, rfl⟩

/-- What vocab.Bytes answers. -/
def ByOut (ts : Vc.Toks) (k : Int) (e : Ending) : Prop :=
  (Vc.Is ts k ∧ e = .returned (.tuple #[.string (Vc.tok ts k), .bool true])) ∨ (¬ Vc.Is ts k ∧ e = .returned (.tuple #[.string ⟨#[]⟩, .bool false]))

set_option maxHeartbeats 800000 in
theorem bytes_calls {w : World} {a am az : Option Addr} {n c nm cm ns cs : Nat} {ts : Vc.Toks} (V : Ts w a n c ts) (k : Int) :
    Calls Try.prog 79 #[.agg #[.slice a n c, .slice am nm cm, .slice az ns cs], .int .i64 k] w fun e w' => ByOut ts k e ∧ Below w.heap.size w w' := by
  have hl := V.len
  have B0 := hid ((Below.refl w.heap.size w).alloc (Nat.le_refl _) (.cells #[.slice a n c, .slice am nm cm, .slice az ns cs] 26))
  have T0 := hid (V.below B0.out)
  clear V
  by_cases h0 : k < 0
  · have HN := hid (show ¬ Vc.Is ts k from fun h => by have := h.1; omega)
    go_enter Try.func79, Try.ntmps79
    go_wp2_with fail
    go_ret2
    exact ⟨.inr ⟨HN.out, rfl⟩, B0.out⟩
  · have d0 : decide (k < (0 : Int)) = false := decide_eq_false h0
    by_cases h1 : (n : Int) ≤ k
    · have HN := hid (show ¬ Vc.Is ts k from fun h => by have := h.2.1; omega)
      go_enter Try.func79, Try.ntmps79
      go_wp2_with fail
      go_ret2
      exact ⟨.inr ⟨HN.out, rfl⟩, B0.out⟩
    · have d1 : decide ((n : Int) ≤ k) = false := decide_eq_false h1
      obtain ⟨j, rfl⟩ : ∃ j : Nat, k = j := ⟨k.toNat, by omega⟩
      have hj : j < n := by omega
      have hj0 : (0 : Int) ≤ j := by omega
      have hj1 : (j : Int) < n := by omega
      have d1 : ¬ n ≤ j := by omega
      obtain ⟨b, off, rfl, hbl, hc⟩ := T0.out.at' (by omega)
      have q1 := hc j hj
      obtain ⟨t, ht⟩ : ∃ t, at_ ts j = t := ⟨_, rfl⟩
      rw [ht] at q1
      have HT := hid ht
      clear hc ht
      by_cases hz : t.size = 0
      · have e1 := (ba_empty hz).1
        have e2 := (ba_empty hz).2
        have HN := hid (show ¬ Vc.Is ts j from fun h => h.2.2 (by rw [Int.toNat_natCast, HT.out]; exact hz))
        clear hz
        go_enter Try.func79, Try.ntmps79
        go_wp2_with fail
        go_ret2
        exact ⟨.inr ⟨HN.out, rfl⟩, B0.out⟩
      · have e1 := (ba_full hz).1
        have e2 := (ba_full hz).2
        have HN := hid (show Vc.Is ts j from ⟨by omega, by omega, by rw [Int.toNat_natCast, HT.out]; exact hz⟩)
        have HK := hid (show Vc.tok ts j = t by unfold Vc.tok; rw [Int.toNat_natCast]; exact HT.out)
        clear hz
        go_enter Try.func79, Try.ntmps79
        go_wp2_with fail
        go_ret2
        exact ⟨.inl ⟨HN.out, by rw [HK.out]; rfl⟩, B0.out⟩
end Go.Proofs.Ytcjakjmhghoilaa

/-
  Walks of cmp.Or at int, vocab.compare, the function of mayMerges, vocab.holds at merges, vocab.mayMerge.
-/
namespace Go.Proofs.Ytcjakjmhghoilaa
open Go.RowKit
set_option linter.unusedVariables false

theorem or_calls (x y z : Int) (B : Nat) (w : World) (c0 : w.cell? ⟨B, 0, none⟩ = some (.int .i64 x)) (c1 : w.cell? ⟨B, 1, none⟩ = some (.int .i64 y)) (c2 : w.cell? ⟨B, 2, none⟩ = some (.int .i64 z)) :
    Calls Try.prog 77 #[.slice (some ⟨B, 0, none⟩) 3 3] w fun e w' => e = .returned (.int .i64 (Vc.orI x (Vc.orI y z))) ∧ w' = w := by
  by_cases hx : x = 0
  · by_cases hy : y = 0
    · have HE := hid (show Vc.orI x (Vc.orI y z) = z by unfold Vc.orI; rw [if_pos hx, if_pos hy])
      subst hx hy
      by_cases hz : z = 0
      · subst hz
        go_enter Try.func77, Try.ntmps77
        go_wp2
        refine wp_loop_rounds 4 ?_
        rw [rounds_succ]
        go_wp2
        rw [rounds_succ]
        go_wp2
        rw [rounds_succ]
        go_wp2
        rw [rounds_succ]
        go_wp2
        go_ret
        exact ⟨by rw [HE.out]; rfl, rfl⟩
      · have dz : (z == 0) = false := by simpa using hz
        go_enter Try.func77, Try.ntmps77
        go_wp2
        refine wp_loop_rounds 3 ?_
        rw [rounds_succ]
        go_wp2
        rw [rounds_succ]
        go_wp2
        rw [rounds_succ]
        go_wp2
        go_ret
        exact ⟨by rw [HE.out]; rfl, rfl⟩
    · have HE := hid (show Vc.orI x (Vc.orI y z) = y by unfold Vc.orI; rw [if_pos hx, if_neg hy])
      subst hx
      have dy : (y == 0) = false := by simpa using hy
      go_enter Try.func77, Try.ntmps77
      go_wp2
      refine wp_loop_rounds 2 ?_
      rw [rounds_succ]
      go_wp2
      rw [rounds_succ]
      go_wp2
      go_ret
      exact ⟨by rw [HE.out]; rfl, rfl⟩
  · have HE := hid (show Vc.orI x (Vc.orI y z) = x by unfold Vc.orI; rw [if_neg hx])
    have dx : (x == 0) = false := by simpa using hx
    go_enter Try.func77, Try.ntmps77
    go_wp2
    refine wp_loop_rounds 1 ?_
    rw [rounds_succ]
    go_wp2
    go_ret
    exact ⟨by rw [HE.out]; rfl, rfl⟩

theorem or_new (x y z : Int) (B : Nat) (t : TypeId) (W : World) (hB : B = W.heap.size) :
    Calls Try.prog 77 #[.slice (some ⟨B, 0, none⟩) 3 3] (W.alloc (.cells #[.int .i64 x, .int .i64 y, .int .i64 z] t)).drew fun e w' => e = .returned (.int .i64 (Vc.orI x (Vc.orI y z))) ∧ w' = (W.alloc (.cells #[.int .i64 x, .int .i64 y, .int .i64 z] t)).drew := by
  subst hB
  have h := Bx3.new W t (.int .i64 x) (.int .i64 y) (.int .i64 z)
  exact or_calls x y z W.heap.size _ h.cell0 h.cell1 h.cell2

/-- New blocks and draws alone. -/
theorem grow_of {w w' : World} (h : Below w.heap.size w w') (hd : w.drawn ≤ w'.drawn) : ∃ q os', w' = Sort.grow (w.drewN q) os' := by
  refine ⟨w'.drawn - w.drawn, w'.heap.extract w.heap.size w'.heap.size, ?_⟩
  obtain ⟨hp', tp', dr', os', ou'⟩ := w'
  obtain ⟨hp, tp, dr, os, ou⟩ := w
  have h1 := h.os
  have h2 := h.tape
  have h3 := h.output
  have h4 := h.size
  have h5 := h.block
  simp only at h1 h2 h3 h4 h5 hd
  subst h1 h2 h3
  simp only [Sort.grow, World.drewN, World.mk.injEq, and_true, true_and]
  refine ⟨?_, by omega⟩
  apply Array.ext_getElem?
  intro i
  by_cases hi : i < hp.size
  · rw [h5 i hi, Array.getElem?_append_left hi]
  · rw [Array.getElem?_append_right (by omega), Array.getElem?_extract]
    split
    · congr 1; omega
    · rw [Array.getElem?_eq_none (by omega)]

set_option maxHeartbeats 3200000 in
theorem compare_calls (l1 r1 o1 d1 l2 r2 o2 d2 : Int) (w : World) :
    Calls Try.prog 64 #[.agg #[.int .i64 l1, .int .i64 r1, .int .i64 o1, .int .i64 d1], .agg #[.int .i64 l2, .int .i64 r2, .int .i64 o2, .int .i64 d2]] w fun e w' => e = .returned (.int .i64 (Vc.cmp (l1, r1, o1, d1) (l2, r2, o2, d2))) ∧ (Below w.heap.size w w' ∧ w.drawn ≤ w'.drawn) := by
  have B0 := hid (((Below.refl w.heap.size w).alloc (Nat.le_refl _) (.cells #[.int .i64 l1, .int .i64 r1, .int .i64 o1, .int .i64 d1] 50)).alloc (by simp) (.cells #[.int .i64 l2, .int .i64 r2, .int .i64 o2, .int .i64 d2] 50))
  have X1 := hid ((Bx4.new w 50 (.int .i64 l1) (.int .i64 r1) (.int .i64 o1) (.int .i64 d1)).alloc (.cells #[.int .i64 l2, .int .i64 r2, .int .i64 o2, .int .i64 d2] 50))
  have X2 := hid (Bx4.new (w.alloc (.cells #[.int .i64 l1, .int .i64 r1, .int .i64 o1, .int .i64 d1] 50)) 50 (.int .i64 l2) (.int .i64 r2) (.int .i64 o2) (.int .i64 d2))
  have HD := hid (show w.drawn ≤ ((w.alloc (.cells #[.int .i64 l1, .int .i64 r1, .int .i64 o1, .int .i64 d1] 50)).alloc (.cells #[.int .i64 l2, .int .i64 r2, .int .i64 o2, .int .i64 d2] 50)).drawn from Nat.le_refl _)
  go_enter Try.func64, Try.ntmps64
  go_wp2_with fail
  go_region_held3 (fun w' => w'.cell? ⟨w.heap.size, 3, none⟩ = some (.int .i64 d1) ∧ w'.cell? ⟨w.heap.size, 0, none⟩ = some (.int .i64 l1) ∧ w'.cell? ⟨w.heap.size, 1, none⟩ = some (.int .i64 r1) ∧ w'.cell? ⟨w.heap.size + 1, 3, none⟩ = some (.int .i64 d2) ∧ w'.cell? ⟨w.heap.size + 1, 0, none⟩ = some (.int .i64 l2) ∧ w'.cell? ⟨w.heap.size + 1, 1, none⟩ = some (.int .i64 r2)) (first | go_keep | simp) (first | (go_at_call 78; refine (cmpInt_calls _ _ _).mono ?_; rintro e w2 ⟨rfl, rfl⟩) | (go_at_call 77; refine (or_new _ _ _ _ _ _ (by simp)).mono ?_; rintro e w2 ⟨rfl, rfl⟩))
  go_wp2_with fail
  go_ret
  refine ⟨rfl, ?_, ?_⟩
  · exact (B0.out.alloc (by simp; omega) _).drew
  · exact Nat.le_trans HD.out (Nat.le_add_right _ 1)
end Go.Proofs.Ytcjakjmhghoilaa

/-
  Walks of the function of mayMerges, of vocab.holds at merges, of vocab.mayMerge.
-/
namespace Go.Proofs.Ytcjakjmhghoilaa
open Go.RowKit
set_option linter.unusedVariables false

set_option maxHeartbeats 1600000 in
theorem mayFollow_calls (l1 r1 o1 d1 l2 r2 o2 d2 : Int) (w : World) :
    Calls Try.prog 63 #[.agg #[.int .i64 l1, .int .i64 r1, .int .i64 o1, .int .i64 d1], .agg #[.int .i64 l2, .int .i64 r2, .int .i64 o2, .int .i64 d2]] w fun e w' => Says e (Vc.Fol (l1, r1, o1, d1) (l2, r2, o2, d2)) ∧ Below w.heap.size w w' := by
  have B0 := hid (((Below.refl w.heap.size w).alloc (Nat.le_refl _) (.cells #[.int .i64 l1, .int .i64 r1, .int .i64 o1, .int .i64 d1] 50)).alloc (by simp) (.cells #[.int .i64 l2, .int .i64 r2, .int .i64 o2, .int .i64 d2] 50))
  have X1 := hid ((Bx4.new w 50 (.int .i64 l1) (.int .i64 r1) (.int .i64 o1) (.int .i64 d1)).alloc (.cells #[.int .i64 l2, .int .i64 r2, .int .i64 o2, .int .i64 d2] 50))
  have X2 := hid (Bx4.new (w.alloc (.cells #[.int .i64 l1, .int .i64 r1, .int .i64 o1, .int .i64 d1] 50)) 50 (.int .i64 l2) (.int .i64 r2) (.int .i64 o2) (.int .i64 d2))
  have HA := hid (Vc.cmp_lt (l1, r1, o1, d1) (l2, r2, o2, d2))
  go_enter Try.func63, Try.ntmps63
  go_wp2_with fail
  refine (compare_calls l1 r1 o1 d1 l2 r2 o2 d2 _).mono ?_
  rintro e w1 ⟨rfl, b1, -⟩
  have B1 := hid (B0.out.trans (b1.mono B0.out.size))
  have Y1 := hid (X1.out.below b1 X1.out.lt)
  have Y2 := hid (X2.out.below b1 X2.out.lt)
  rw [show (w.alloc (.cells #[.int .i64 l1, .int .i64 r1, .int .i64 o1, .int .i64 d1] 50)).heap.size = w.heap.size + 1 by simp] at Y2
  have c12 := Y1.out.cell2
  have c13 := Y1.out.cell3
  have c22 := Y2.out.cell2
  have c23 := Y2.out.cell3
  clear b1 X1 X2 B0
  obtain ⟨C, hC⟩ : ∃ C, Vc.cmp (l1, r1, o1, d1) (l2, r2, o2, d2) = C := ⟨_, rfl⟩
  rw [hC] at HA ⊢
  clear hC
  by_cases h1 : C < 0
  · by_cases h2 : d1 = d2
    · by_cases h3 : o1 = o2
      · subst h2 h3
        have HN := hid (show Vc.Fol (l1, r1, o1, d1) (l2, r2, o1, d1) from ⟨HA.out.1 h1, fun _ => rfl⟩)
        go_wp2_with fail
        go_ret
        exact ⟨Says.yes HN.out, B1.out⟩
      · subst h2
        have HN := hid (show ¬ Vc.Fol (l1, r1, o1, d1) (l2, r2, o2, d1) from fun h => h3 (h.2 rfl))
        have d3 : (o1 == o2) = false := by simpa using h3
        go_wp2_with fail
        go_ret
        exact ⟨Says.no HN.out, B1.out⟩
    · have HN := hid (show Vc.Fol (l1, r1, o1, d1) (l2, r2, o2, d2) from ⟨HA.out.1 h1, fun h => absurd h h2⟩)
      have d3 : (d1 == d2) = false := by simpa using h2
      go_wp2_with fail
      go_ret
      exact ⟨Says.yes HN.out, B1.out⟩
  · have d1' : decide (C < (0 : Int)) = false := decide_eq_false h1
    have HN := hid (show ¬ Vc.Fol (l1, r1, o1, d1) (l2, r2, o2, d2) from fun h => h1 (HA.out.2 h.1))
    go_wp2_with fail
    go_ret
    exact ⟨Says.no HN.out, B1.out⟩

theorem eight {w w' : World} (h : Below w.heap.size w w') {b : Nat} (hb : b < w.heap.size) {a0 a1 a2 a3 a4 a5 a6 a7 : Nat} {v0 v1 v2 v3 v4 v5 v6 v7 : Value}
    (hs : w.cell? ⟨b, a0, none⟩ = some v0 ∧ w.cell? ⟨b, a1, none⟩ = some v1 ∧ w.cell? ⟨b, a2, none⟩ = some v2 ∧ w.cell? ⟨b, a3, none⟩ = some v3 ∧ w.cell? ⟨b, a4, none⟩ = some v4 ∧ w.cell? ⟨b, a5, none⟩ = some v5 ∧ w.cell? ⟨b, a6, none⟩ = some v6 ∧ w.cell? ⟨b, a7, none⟩ = some v7) :
    w'.cell? ⟨b, a0, none⟩ = some v0 ∧ w'.cell? ⟨b, a1, none⟩ = some v1 ∧ w'.cell? ⟨b, a2, none⟩ = some v2 ∧ w'.cell? ⟨b, a3, none⟩ = some v3 ∧ w'.cell? ⟨b, a4, none⟩ = some v4 ∧ w'.cell? ⟨b, a5, none⟩ = some v5 ∧ w'.cell? ⟨b, a6, none⟩ = some v6 ∧ w'.cell? ⟨b, a7, none⟩ = some v7 := by
  simp only [h.cell (show (⟨b, _, none⟩ : Addr).block < w.heap.size from hb)]
  exact hs

/-- Each merge may follow the one ahead of it. -/
def Vc.Row (ms : List Mg4) : Prop := ∀ i, i + 1 < ms.length → Vc.Fol (mat ms i) (mat ms (i + 1))

set_option maxRecDepth 100000 in
set_option maxHeartbeats 3200000 in
theorem holds_calls {w : World} {a : Option Addr} {n c : Nat} {ms : List Mg4} (V : Qw w a n c ms) (hn : n ≤ 16384) :
    Calls Try.prog 65 #[.slice a n c, .func (.func 63) #[] #[]] w fun e w' => Says e (Vc.Row ms) ∧ Below w.heap.size w w' := by
  have hl := V.len
  have T0 := hid V
  clear V
  go_enter Try.func65, Try.ntmps65
  go_wp2_with fail
  go_loopg [5] n (fun r iv wr => ∃ j : Nat, r = n - j ∧ iv = .int .i64 ((j : Int) + 1) ∧ Hid (∀ i, i < j → i + 1 < n → Vc.Fol (mat ms i) (mat ms (i + 1))) ∧ j ≤ n ∧ Hid (Below w.heap.size w wr))
  case atStart => exact ⟨0, rfl, rfl, hid (fun i hi => by omega), by omega, hid (Below.refl _ _)⟩
  case round =>
    obtain ⟨j, rfl, rfl, HA, hj, HB⟩ := hrel
    by_cases hlt : j + 1 < n
    · have k1 : (j : Int) + 1 < n := by omega
      have k0 : (0 : Int) ≤ j := by omega
      have k2 : (0 : Int) ≤ (j : Int) + 1 := by omega
      have k3 : (j : Int) < n := by omega
      have e1 : IntKind.i64.wrap ((j : Int) + 1 - 1) = j := by rw [i64_in (by omega) (by omega)]; omega
      have e3 : IntKind.i64.wrap (j : Int) = j := i64_in (by omega) (by omega)
      have e4 : (1 : Int) ≤ (j : Int) + 1 := by omega
      have e2 : IntKind.i64.wrap ((j : Int) + 1 + 1) = j + 1 + 1 := i64_in (by omega) (by omega)
      obtain ⟨b, off, rfl, hbl, hc⟩ := (T0.out.below HB.out).at' (by omega)
      obtain ⟨p0, p1, p2, p3⟩ := hc j (by omega)
      obtain ⟨q0, q1, q2, q3⟩ := hc (j + 1) hlt
      obtain ⟨⟨x0, x1, x2, x3⟩, hx⟩ : ∃ x, mat ms j = x := ⟨_, rfl⟩
      obtain ⟨⟨y0, y1, y2, y3⟩, hy⟩ : ∃ x, mat ms (j + 1) = x := ⟨_, rfl⟩
      rw [hx] at p0 p1 p2 p3
      rw [hy] at q0 q1 q2 q3
      have HX := hid hx
      have HY := hid hy
      clear hc hx hy
      go_wp2_with fail
      go_region_held3 (fun w' => w'.cell? ⟨b, off + j * 4, none⟩ = some (.int .i64 x0) ∧ w'.cell? ⟨b, off + j * 4 + 1, none⟩ = some (.int .i64 x1) ∧ w'.cell? ⟨b, off + j * 4 + 2, none⟩ = some (.int .i64 x2) ∧ w'.cell? ⟨b, off + j * 4 + 3, none⟩ = some (.int .i64 x3) ∧ w'.cell? ⟨b, off + (j + 1) * 4, none⟩ = some (.int .i64 y0) ∧ w'.cell? ⟨b, off + (j + 1) * 4 + 1, none⟩ = some (.int .i64 y1) ∧ w'.cell? ⟨b, off + (j + 1) * 4 + 2, none⟩ = some (.int .i64 y2) ∧ w'.cell? ⟨b, off + (j + 1) * 4 + 3, none⟩ = some (.int .i64 y3)) (first | exact N2.out | go_keep | simp) (first | (go_at_call 63; refine (mayFollow_calls _ _ _ _ _ _ _ _ _).mono ?_; rintro e w2 ⟨⟨t, rfl, ht⟩, b2⟩; have N2 := hid (eight b2 hbl ⟨p0, p1, p2, p3, q0, q1, q2, q3⟩); have B2 := hid (HB.out.drew.trans (b2.mono HB.out.size)); have HT := hid ht; clear b2 ht))
      cases t
      · have HN := hid (show ¬ Vc.Row ms from fun h => by
          have h1 := h j (by omega)
          rw [HX.out, HY.out] at h1
          simpa using HT.out.2 h1)
        go_wp2_with fail
        go_ret
        exact ⟨Says.no HN.out, B2.out⟩
      · have HN := hid (HT.out.1 rfl)
        go_wp2_with fail
        go_roundg (n - (j + 1))
        case measure => omega
        case rel => exact ⟨j + 1, rfl, by go_num, hid (fun i hi h2 => by
          by_cases h : i < j
          · exact HA.out i h h2
          · obtain rfl : i = j := by omega
            rw [HX.out, HY.out]
            exact HN.out), by omega, B2⟩
    · have k1 : ¬ ((j : Int) + 1 < n) := by omega
      have HN := hid (show Vc.Row ms from fun i hi => HA.out i (by omega) (by omega))
      go_wp2_with fail
      go_ret
      exact ⟨Says.yes HN.out, HB.out⟩
end Go.Proofs.Ytcjakjmhghoilaa

/-
  Walk of vocab.mayMerge.
-/
namespace Go.Proofs.Ytcjakjmhghoilaa
open Go.RowKit
set_option linter.unusedVariables false

set_option maxRecDepth 100000 in
set_option maxHeartbeats 3200000 in
theorem mayMerge_calls {w : World} {a am az : Option Addr} {n c nm cm ns cs : Nat} {ts : Vc.Toks} (V : Ts w a n c ts) (hT : Vc.MayT ts) (l r o d : Int) :
    Calls Try.prog 66 #[.agg #[.slice a n c, .slice am nm cm, .slice az ns cs], .agg #[.int .i64 l, .int .i64 r, .int .i64 o, .int .i64 d]] w fun e w' => Says e (Vc.OkM ts (l, r, o, d)) ∧ Below w.heap.size w w' := by
  have B0 := hid (((Below.refl w.heap.size w).alloc (Nat.le_refl _) (.cells #[.slice a n c, .slice am nm cm, .slice az ns cs] 26)).alloc (by simp) (.cells #[.int .i64 l, .int .i64 r, .int .i64 o, .int .i64 d] 50))
  have X1 := hid ((Bx3.new w 26 (.slice a n c) (.slice am nm cm) (.slice az ns cs)).alloc (.cells #[.int .i64 l, .int .i64 r, .int .i64 o, .int .i64 d] 50))
  have X2 := hid (Bx4.new (w.alloc (.cells #[.slice a n c, .slice am nm cm, .slice az ns cs] 26)) 50 (.int .i64 l) (.int .i64 r) (.int .i64 o) (.int .i64 d))
  have T0 := hid (V.below B0.out)
  rw [show (w.alloc (.cells #[.slice a n c, .slice am nm cm, .slice az ns cs] 26)).heap.size = w.heap.size + 1 by simp] at X2
  have HT := hid hT
  clear V hT
  go_enter Try.func66, Try.ntmps66
  go_wp2_with fail
  refine (bytes_calls T0.out l).mono ?_
  rintro e w1 ⟨E1, b1⟩
  have B1 := hid (B0.out.trans (b1.mono B0.out.size))
  have T1 := hid (T0.out.below b1)
  have Y1 := hid (X1.out.below b1 X1.out.lt)
  have Y2 := hid (X2.out.below b1 X2.out.lt)
  clear b1 X1 X2 B0 T0
  have c10 := Y1.out.cell0
  have c11 := Y1.out.cell1
  have c12 := Y1.out.cell2
  have c21 := Y2.out.cell1
  obtain ⟨s1, t1, h1, rfl⟩ : ∃ s t, ((t = true ∧ Vc.Is ts l ∧ s = Vc.tok ts l) ∨ (t = false ∧ ¬ Vc.Is ts l)) ∧ e = .returned (.tuple #[.string s, .bool t]) := by
    rcases E1 with ⟨h, rfl⟩ | ⟨h, rfl⟩
    · exact ⟨_, _, Or.inl ⟨rfl, h, rfl⟩, rfl⟩
    · exact ⟨_, _, Or.inr ⟨rfl, h⟩, rfl⟩
  have H1 := hid h1
  clear h1 E1
  go_wp2_with fail
  refine (bytes_calls T1.out r).mono ?_
  rintro e w2 ⟨E1, b1⟩
  have B2 := hid (B1.out.trans (b1.mono B1.out.size))
  have T2 := hid (T1.out.below b1)
  have Z1 := hid (Y1.out.below b1 Y1.out.lt)
  have Z2 := hid (Y2.out.below b1 Y2.out.lt)
  clear b1 Y1 Y2 B1 T1 c10 c11 c12 c21
  have c10 := Z1.out.cell0
  have c11 := Z1.out.cell1
  have c12 := Z1.out.cell2
  have c22 := Z2.out.cell2
  obtain ⟨s2, t2, h2, rfl⟩ : ∃ s t, ((t = true ∧ Vc.Is ts r ∧ s = Vc.tok ts r) ∨ (t = false ∧ ¬ Vc.Is ts r)) ∧ e = .returned (.tuple #[.string s, .bool t]) := by
    rcases E1 with ⟨h, rfl⟩ | ⟨h, rfl⟩
    · exact ⟨_, _, Or.inl ⟨rfl, h, rfl⟩, rfl⟩
    · exact ⟨_, _, Or.inr ⟨rfl, h⟩, rfl⟩
  have H2 := hid h2
  clear h2 E1
  go_wp2_with fail
  refine (bytes_calls T2.out o).mono ?_
  rintro e w3 ⟨E1, b1⟩
  have B3 := hid (B2.out.trans (b1.mono B2.out.size))
  have V2 := hid (Z2.out.below b1 Z2.out.lt)
  clear b1 Z1 Z2 B2 T2 c10 c11 c12 c22
  have c23 := V2.out.cell3
  obtain ⟨s3, t3, h3, rfl⟩ : ∃ s t, ((t = true ∧ Vc.Is ts o ∧ s = Vc.tok ts o) ∨ (t = false ∧ ¬ Vc.Is ts o)) ∧ e = .returned (.tuple #[.string s, .bool t]) := by
    rcases E1 with ⟨h, rfl⟩ | ⟨h, rfl⟩
    · exact ⟨_, _, Or.inl ⟨rfl, h, rfl⟩, rfl⟩
    · exact ⟨_, _, Or.inr ⟨rfl, h⟩, rfl⟩
  have H3 := hid h3
  clear h3 E1
  cases t1
  · have HN := hid (show ¬ Vc.OkM ts (l, r, o, d) from fun h => by
      rcases H1.out with h' | h'
      · exact absurd h'.1 (by decide)
      · exact h'.2 h.1)
    go_wp2_with fail
    go_ret
    exact ⟨Says.no HN.out, B3.out⟩
  cases t2
  · have HN := hid (show ¬ Vc.OkM ts (l, r, o, d) from fun h => by
      rcases H2.out with h' | h'
      · exact absurd h'.1 (by decide)
      · exact h'.2 h.2.1)
    go_wp2_with fail
    go_ret
    exact ⟨Says.no HN.out, B3.out⟩
  cases t3
  · have HN := hid (show ¬ Vc.OkM ts (l, r, o, d) from fun h => by
      rcases H3.out with h' | h'
      · exact absurd h'.1 (by decide)
      · exact h'.2 h.2.2.1)
    go_wp2_with fail
    go_ret
    exact ⟨Says.no HN.out, B3.out⟩
  obtain ⟨i1, q1⟩ : Vc.Is ts l ∧ s1 = Vc.tok ts l := by
    rcases H1.out with h' | h'
    · exact h'.2
    · exact absurd h'.1 (by decide)
  obtain ⟨i2, q2⟩ : Vc.Is ts r ∧ s2 = Vc.tok ts r := by
    rcases H2.out with h' | h'
    · exact h'.2
    · exact absurd h'.1 (by decide)
  obtain ⟨i3, q3⟩ : Vc.Is ts o ∧ s3 = Vc.tok ts o := by
    rcases H3.out with h' | h'
    · exact h'.2
    · exact absurd h'.1 (by decide)
  have I1 := hid i1
  have I2 := hid i2
  have I3 := hid i3
  have Q1 := hid q1
  have Q2 := hid q2
  have Q3 := hid q3
  have hz : ¬ 9223372036854775807 < s1.size + s2.size := by
    have z1 := HT.out.sz l.toNat (by have := i1.2.1; have := i1.1; omega)
    have z2 := HT.out.sz r.toNat (by have := i2.2.1; have := i2.1; omega)
    rw [q1, q2]; simp only [Vc.tok]; omega
  clear H1 H2 H3 i1 i2 i3 q1 q2 q3
  by_cases hs : s3 = s1 ++ s2
  · have HS := hid (show Vc.tok ts o = Vc.tok ts l ++ Vc.tok ts r by rw [← Q1.out, ← Q2.out, ← Q3.out, hs])
    subst hs
    clear Q1 Q2 Q3
    by_cases h0 : 0 ≤ d
    · by_cases h4 : d ≤ 1048576
      · have HN := hid (show Vc.OkM ts (l, r, o, d) from ⟨I1.out, I2.out, I3.out, HS.out, h0, h4⟩)
        go_wp2_with fail
        go_ret
        exact ⟨Says.yes HN.out, B3.out⟩
      · have HN := hid (show ¬ Vc.OkM ts (l, r, o, d) from fun h => h4 h.2.2.2.2.2)
        have k4 : decide (d ≤ 1048576) = false := decide_eq_false h4
        go_wp2_with fail
        go_ret
        exact ⟨Says.no HN.out, B3.out⟩
    · have HN := hid (show ¬ Vc.OkM ts (l, r, o, d) from fun h => h0 h.2.2.2.2.1)
      have k4 : decide (0 ≤ d) = false := decide_eq_false h0
      go_wp2_with fail
      go_ret
      exact ⟨Says.no HN.out, B3.out⟩
  · have HN := hid (show ¬ Vc.OkM ts (l, r, o, d) from fun h => hs (by rw [Q1.out, Q2.out, Q3.out]; exact h.2.2.2.1))
    have hs' : ¬ s3.toList = (s1 ++ s2).toList := fun h => hs (ba_eq h)
    have hs2 : (s3.toList == (s1 ++ s2).toList) = false := beq_eq_false_iff_ne.mpr hs'
    go_wp2_with fail
    go_ret
    exact ⟨Says.no HN.out, B3.out⟩
end Go.Proofs.Ytcjakjmhghoilaa

/-
  Walk of vocab.isMerged.
-/
namespace Go.Proofs.Ytcjakjmhghoilaa
open Go.RowKit
set_option linter.unusedVariables false

theorem Try.infoBl : (Try.prog.info? 4).map (fun i => (i.zero, i.size, i.bytes)) = some (some (.bool false), 1, 1) := by kernel_rfl

set_option maxRecDepth 100000 in
set_option maxHeartbeats 3200000 in
theorem isMerged_calls {w : World} {a am az : Option Addr} {n c nm cm ns cs : Nat} {ts : Vc.Toks} {ms : List Mg4} (V : Ts w a n c ts) (M : Qw w am nm cm ms) (hT : Vc.MayT ts) (hM : Vc.MayM ts ms) :
    Calls Try.prog 53 #[.agg #[.slice a n c, .slice am nm cm, .slice az ns cs]] w fun e w' => Says e (Vc.Made ts ms) ∧ Below w.heap.size w w' := by
  have hl := V.len
  have hlm := M.len
  have hn := hT.len
  have hm := hM.len
  have B0 := hid ((Below.refl w.heap.size w).alloc (Nat.le_refl _) (.cells #[.slice a n c, .slice am nm cm, .slice az ns cs] 26))
  have X0 := hid (Bx3.new w 26 (.slice a n c) (.slice am nm cm) (.slice az ns cs))
  have T0 := hid (V.below B0.out)
  have M0 := hid (M.below B0.out)
  have HM := hid hM
  have s0 : (w.alloc (.cells #[.slice a n c, .slice am nm cm, .slice az ns cs] 26)).heap.size = w.heap.size + 1 := by simp
  have MW := hid M
  have TW := hid V
  clear V M hT hM
  go_enter Try.func53, Try.ntmps53
  obtain ⟨i0, hi0, hz0, hz1, hz2⟩ := info_parts Try.infoBl
  go_wp2_with (refine wpList_make_vr (by rfl) _ _ 126 rfl (.bool false) 4 _ Try.underlying126 hi0 hz0 rfl hz1 (by omega) n (by omega) rfl rfl ?_; intro w1 R1 b1 z1; rw [s0] at R1 b1 z1; have X1 := hid (X0.out.below b1.out (by omega)); have B1 := hid (B0.out.trans (b1.out.mono (by omega))); clear b1 X0 B0; have x10 := X1.out.cell0; have x11 := X1.out.cell1)
  go_loopg [15] nm (fun r iv wr => ∃ (j : Nat) (g : Nat → Bool), r = nm - j ∧ iv = .int .i64 (j : Int) ∧ j ≤ nm ∧ Hid (Vr wr (w.heap.size + 1) n 4 (fun i => .bool (g i))) ∧ Hid (∀ i : Nat, g i = true ↔ ∃ k, k < j ∧ (mat ms k).2.2.1 = (i : Int)) ∧ Hid (Bx3 wr w.heap.size 26 (.slice a n c) (.slice am nm cm) (.slice az ns cs)) ∧ Hid (Below w.heap.size w wr))
  case atStart => exact ⟨0, fun _ => false, rfl, rfl, by omega, R1, hid (fun i => ⟨fun h => by simp at h, fun ⟨k, hk, _⟩ => by omega⟩), X1, B1⟩
  case round =>
    obtain ⟨j, g, rfl, rfl, hj, HR, HG, HX, HB⟩ := hrel
    by_cases hlt : j < nm
    · have k1 : (j : Int) < nm := by omega
      have k0 : (0 : Int) ≤ j := by omega
      have e2 : IntKind.i64.wrap ((j : Int) + 1) = j + 1 := i64_in (by omega) (by omega)
      obtain ⟨b, off, rfl, hbl, hc⟩ := (MW.out.below HB.out).at' (by omega)
      obtain ⟨p0, p1, p2, p3⟩ := hc j hlt
      obtain ⟨⟨x0, x1, x2, x3⟩, hx⟩ : ∃ x, mat ms j = x := ⟨_, rfl⟩
      have hok := HM.out.ok j (by omega)
      rw [hx] at p0 p1 p2 p3 hok
      obtain ⟨q, rfl⟩ : ∃ q : Nat, x2 = q := ⟨x2.toNat, by have := hok.2.2.1.1; simp at this ⊢; omega⟩
      have hq : q < n := by have := hok.2.2.1.2.1; simp at this; omega
      have q0 : (0 : Int) ≤ q := by omega
      have q1 : (q : Int) < n := by omega
      have cq := HR.out.cell hq
      have fq := HR.out.fr q
      have hlr := HR.out.lt
      have HQ := hid hx
      clear hc hx hok
      go_wp2_with fail
      go_roundg (nm - (j + 1))
      case measure => omega
      case rel =>
        refine ⟨j + 1, fun i => if i = q then true else g i, rfl, by go_num, by omega, hid (((HR.out.set q (.bool true)).alloc _).congr (fun i hi => ?_)), hid (fun i => ?_), hid ((HX.out.other (by omega) _).alloc _), hid ((HB.out.setCell (by simp) _).alloc (by have := HB.out.size; simp; omega) _)⟩
        · simp only [upd]
          split <;> rfl
        · show (if i = q then true else g i) = true ↔ _
          constructor
          · intro h
            by_cases hi : i = q
            · exact ⟨j, by omega, by rw [HQ.out, hi]⟩
            · rw [if_neg hi] at h
              obtain ⟨k, hk, he⟩ := (HG.out i).1 h
              exact ⟨k, by omega, he⟩
          · rintro ⟨k, hk, he⟩
            by_cases hi : i = q
            · rw [if_pos hi]
            · rw [if_neg hi]
              by_cases hkj : k < j
              · exact (HG.out i).2 ⟨k, hkj, he⟩
              · obtain rfl : k = j := by omega
                rw [HQ.out] at he
                exact absurd (Int.ofNat.inj he.symm) hi
    · obtain rfl : j = nm := by omega
      have k1 : ¬ ((j : Int) < j) := by omega
      have y0 := HX.out.cell0
      go_wp2_with fail
      go_loopg [27] n (fun r iv w2 => ∃ i : Nat, r = n - i ∧ iv = .int .i64 (i : Int) ∧ i ≤ n ∧ w2 = wr ∧ Hid (∀ k, k < i → (at_ ts k).size < 2 ∨ ∃ u, u < ms.length ∧ (mat ms u).2.2.1 = (k : Int)))
      case atStart => exact ⟨0, rfl, rfl, by omega, rfl, hid (fun k hk => by omega)⟩
      case round =>
        obtain ⟨i, rfl, rfl, hi, rfl, HA⟩ := hrel
        by_cases hlt : i < n
        · have i1 : (i : Int) < n := by omega
          have i0' : (0 : Int) ≤ i := by omega
          have e2 : IntKind.i64.wrap ((i : Int) + 1) = i + 1 := i64_in (by omega) (by omega)
          obtain ⟨b, off, rfl, hbl, hc⟩ := (TW.out.below HB.out).at' (by omega)
          have q1 := hc i hlt
          obtain ⟨t, ht⟩ : ∃ t, at_ ts i = t := ⟨_, rfl⟩
          rw [ht] at q1
          have HT := hid ht
          clear hc ht
          have cq := HR.out.cell hlt
          by_cases hz : (1 : Int) < (t.size : Int)
          · obtain ⟨gb, hgb⟩ : ∃ x, g i = x := ⟨_, rfl⟩
            have HGi := hid (HG.out i)
            rw [hgb] at cq HGi
            clear hgb
            have hz' : 1 < t.size := by omega
            cases gb
            · have HN := hid (show ¬ Vc.Made ts ms from fun h => by
                rcases h i (by omega) with h1 | ⟨k, hk, he⟩
                · rw [HT.out] at h1; omega
                · exact absurd (HGi.out.2 ⟨k, by omega, he⟩) (by decide))
              go_wp2_with fail
              go_ret
              exact ⟨Says.no HN.out, HB.out⟩
            · go_wp2_with fail
              go_roundg (n - (i + 1))
              case measure => omega
              case rel =>
                refine ⟨i + 1, rfl, by go_num, by omega, rfl, hid (fun k hk => ?_)⟩
                by_cases h : k < i
                · exact HA.out k h
                · obtain rfl : k = i := by omega
                  obtain ⟨u, hu, he⟩ := HGi.out.1 (by simp)
                  exact Or.inr ⟨u, by omega, he⟩
          · have hz' : t.size ≤ 1 := by omega
            have d1 : decide ((1 : Int) < (t.size : Int)) = false := decide_eq_false hz
            go_wp2_with fail
            go_roundg (n - (i + 1))
            case measure => omega
            case rel =>
              refine ⟨i + 1, rfl, by go_num, by omega, rfl, hid (fun k hk => ?_)⟩
              by_cases h : k < i
              · exact HA.out k h
              · obtain rfl : k = i := by omega
                exact Or.inl (by rw [HT.out]; omega)
        · have k2 : ¬ ((i : Int) < n) := by omega
          have HN := hid (show Vc.Made ts ms from fun k hk => HA.out k (by omega))
          go_wp2_with fail
          go_ret
          exact ⟨Says.yes HN.out, HB.out⟩
end Go.Proofs.Ytcjakjmhghoilaa

/-
  Walk of vocab.numbersOf.
-/
namespace Go.Proofs.Ytcjakjmhghoilaa
open Go.RowKit Go.Maps
set_option linter.unusedVariables false

/-- The map of the tokens' numbers, in memory. -/
def NumsIn (w : World) (M : Nat) (ts : Vc.Toks) (j : Nat) : Prop :=
  ∃ (m : Nat) (D : DataW Unit), m ≤ j ∧ w.ownsMap Try.prog 9 (plainElem Try.prog 3) M m D ∧ Vc.Nm ts j D

theorem wf_small (j : Nat) (h : j ≤ 4096) : (Lit.int .i64 (j : Int)).wf = true := by
  simp only [Lit.wf, Bool.and_eq_true, decide_eq_true_eq]
  constructor
  · exact Int.le_trans (by decide) (Int.natCast_nonneg j)
  · exact Int.le_trans (Int.ofNat_le.2 h) (by decide)

set_option maxRecDepth 100000 in
set_option maxHeartbeats 3200000 in
theorem numbersOf_calls {w : World} {a : Option Addr} {n c : Nat} {ts : Vc.Toks} (V : Ts w a n c ts) (hn : n ≤ 4096) (hz : ∀ i, i < n → (at_ ts i).size ≤ maxLen) :
    Calls Try.prog 62 #[.slice a n c] w fun e w' => e = .returned (.map (some w.heap.size)) ∧ NumsIn w' w.heap.size ts n ∧ Below w.heap.size w w' := by
  have hl := V.len
  have TW := hid V
  have HZ := hid hz
  clear V hz
  have hmm := @run_makeMap Try.prog
  have HO := hid (World.ownsMap_made w Try.prog 9 (plainElem (H := Unit) Try.prog 3))
  have B0 := hid ((Below.refl w.heap.size w).alloc (Nat.le_refl _) (.map #[] 0))
  go_enter Try.func62, Try.ntmps62
  go_wp2_with fail
  go_loopg [9] n (fun r iv wr => ∃ j : Nat, r = n - j ∧ iv = .int .i64 (j : Int) ∧ j ≤ n ∧ Hid (NumsIn wr w.heap.size ts j) ∧ Hid (Below w.heap.size w wr))
  case atStart => exact ⟨0, rfl, rfl, by omega, hid ⟨0, _, Nat.le_refl _, HO.out, Vc.nm_nil ts⟩, B0⟩
  case round =>
    obtain ⟨j, rfl, rfl, hj, HN, HB⟩ := hrel
    by_cases hlt : j < n
    · have i1 : (j : Int) < n := by omega
      have i0' : (0 : Int) ≤ j := by omega
      have e2 : IntKind.i64.wrap ((j : Int) + 1) = j + 1 := i64_in (by omega) (by omega)
      obtain ⟨b, off, rfl, hbl, hc⟩ := (TW.out.below HB.out).at' (by omega)
      have q1 := hc j hlt
      have hzj := HZ.out j hlt
      obtain ⟨t, ht⟩ : ∃ t, at_ ts j = t := ⟨_, rfl⟩
      rw [ht] at q1 hzj
      have HT := hid ht
      clear hc ht
      by_cases hz : t.size = 0
      · have e1 := (ba_empty hz).1
        have e3 := (ba_empty hz).2
        have HS := hid hz
        clear hz
        go_wp2_with fail
        go_roundg (n - (j + 1))
        case measure => omega
        case rel =>
          obtain ⟨m, D, hm, ho, hd⟩ := HN.out
          exact ⟨j + 1, rfl, by go_num, by omega, hid ⟨m, D, by omega, ho, Vc.nm_skip hd (by rw [HT.out]; exact HS.out)⟩, HB⟩
      · have e1 := (ba_full hz).1
        have e3 := (ba_full hz).2
        have HS := hid hz
        clear hz
        obtain ⟨m, D, hm, ho, hd⟩ := HN.out
        have HD := hid hd
        have HOw := hid ho
        clear HN hd ho
        go_wp2_with (at_mapUpdate; go_must (refine wpList_mapUpdate_own _ rfl _ _ _ 116 rfl 9 3 (string_keyed Try.underlying9) Try.underlying116 _ w.heap.size m _ rfl HOw.out (by unfold maxLen; omega) _ _ _ rfl rfl (Go.WideMaps.keyOf_string_mk Try.underlying9 hzj) _ [] (plainElem_int Try.underlying3 (wf_small j (by omega))) ?_); intro w1 o1 g1; have O1 := hid o1; have G1 := hid g1; clear o1 g1)
        go_roundg (n - (j + 1))
        case measure => omega
        case rel =>
          refine ⟨j + 1, rfl, by go_num, by omega, hid ⟨m + 1, _, by omega, O1.out, ?_⟩, hid (HB.out.grown G1.out HB.out.size (fun k hk => by simp at hk; omega))⟩
          have := Vc.nm_put HD.out HOw.out.isMap (by rw [HT.out]; exact HS.out)
          rw [HT.out] at this
          exact this
    · obtain rfl : j = n := by omega
      have k1 : ¬ ((j : Int) < j) := by omega
      go_wp2_with fail
      go_ret
      exact ⟨rfl, HN.out, HB.out⟩
end Go.Proofs.Ytcjakjmhghoilaa

/-
  Walks of vocab.mayName, isEmpty, Name, ID, of slices.Index at texts, of vocab.Of.
-/
namespace Go.Proofs.Ytcjakjmhghoilaa
open Go.RowKit
set_option linter.unusedVariables false

theorem ne_empty {s : ByteArray} {n : Nat} (h : s.size = n) (h0 : n ≠ 0) : s.toList.isEmpty = false ∧ ¬ s.toList = [] := ba_full (by omega)

set_option maxHeartbeats 1600000 in
theorem mayName_calls (s : ByteArray) (w : World) : Calls Try.prog 69 #[.string s] w fun e w' => Says e (Vc.NameOk s) ∧ w' = w := by
  obtain ⟨hsz, hget, hbd⟩ := St.any s
  obtain ⟨n, hn⟩ : ∃ n, s.size = n := ⟨_, rfl⟩
  obtain ⟨f, hf⟩ : ∃ f, bytesF s = f := ⟨_, rfl⟩
  have HK := hid (show Vc.NameOk s ↔ (1 ≤ n ∧ n ≤ 24 ∧ ∀ i, i < n → Vc.SignOk (f i)) by unfold Vc.NameOk; rw [hn, hf])
  rw [hf] at hget
  clear hbd hf hsz
  by_cases h0 : n = 0
  · have e1 := (ba_empty (hn.trans h0)).1
    have e2 := (ba_empty (hn.trans h0)).2
    have HN := hid (show ¬ Vc.NameOk s from fun h => by have := (HK.out.1 h).1; omega)
    clear h0
    go_enter Try.func69, Try.ntmps69
    go_wp2_with fail
    go_ret
    exact ⟨Says.no HN.out, rfl⟩
  have e1 := (ne_empty hn h0).1
  have e2 := (ne_empty hn h0).2
  by_cases h24 : (24 : Int) < n
  · have HN := hid (show ¬ Vc.NameOk s from fun h => by have := (HK.out.1 h).2.1; omega)
    go_enter Try.func69, Try.ntmps69
    go_wp2_with fail
    go_ret
    exact ⟨Says.no HN.out, rfl⟩
  have d24 : decide ((24 : Int) < n) = false := decide_eq_false h24
  go_enter Try.func69, Try.ntmps69
  go_wp2_with fail
  go_loopg [13] n (fun r iv wr => ∃ j : Nat, r = n - j ∧ j ≤ n ∧ iv = .int .i64 j ∧ Hid (∀ i, i < j → Vc.SignOk (f i)) ∧ w = wr)
  case atStart => exact ⟨0, rfl, by omega, rfl, hid (fun i hi => by omega), rfl⟩
  case round =>
    obtain ⟨j, rfl, hj, rfl, HA, rfl⟩ := hrel
    by_cases hlt : j < n
    · have l0 : (0 : Int) ≤ j := by omega
      have l1 : (j : Int) < n := by omega
      have l2 : IntKind.i64.wrap ((j : Int) + 1) = j + 1 := i64_in (by omega) (by omega)
      go_wp2_with fail
      refine (maySign_calls _ _).mono ?_
      rintro e w2 ⟨⟨t, rfl, ht⟩, rfl⟩
      have HT := hid ht
      clear ht
      cases t
      · have HN := hid (show ¬ Vc.NameOk s from fun h => by have := HT.out.2 ((HK.out.1 h).2.2 j hlt); simp at this)
        go_wp2_with fail
        go_ret
        exact ⟨Says.no HN.out, rfl⟩
      · have HY := hid (HT.out.1 rfl)
        go_wp2_with fail
        go_roundg (n - (j + 1))
        case measure => omega
        case rel => exact ⟨j + 1, rfl, by omega, by go_num, hid (fun i hi => by
          by_cases h : i < j
          · exact HA.out i h
          · obtain rfl : i = j := by omega
            exact HY.out), rfl⟩
    · have l1 : ¬ (j : Int) < n := by omega
      have HN := hid (show Vc.NameOk s from HK.out.2 ⟨by omega, by omega, fun i hi => HA.out i (by omega)⟩)
      go_wp2_with fail
      go_ret
      exact ⟨Says.yes HN.out, rfl⟩

set_option maxHeartbeats 800000 in
theorem isEmpty_calls {w : World} {a : Option Addr} {n c : Nat} {ts : Vc.Toks} (V : Ts w a n c ts) (k : Int) :
    Calls Try.prog 70 #[.slice a n c, .int .i64 k] w fun e w' => Says e (Vc.Emp ts k) ∧ w' = w := by
  have hl := V.len
  have T0 := hid V
  clear V
  by_cases h0 : 0 ≤ k
  · by_cases h1 : k < n
    · obtain ⟨j, rfl⟩ : ∃ j : Nat, k = j := ⟨k.toNat, by omega⟩
      have hj : j < n := by omega
      obtain ⟨b, off, rfl, hbl, hc⟩ := T0.out.at' (by omega)
      have q1 := hc j hj
      obtain ⟨t, ht⟩ : ∃ t, at_ ts j = t := ⟨_, rfl⟩
      rw [ht] at q1
      have HT := hid ht
      clear hc ht
      by_cases hz : t.size = 0
      · have e1 := (ba_empty hz).1
        have e2 := (ba_empty hz).2
        have HN := hid (show Vc.Emp ts j from ⟨by omega, by omega, by rw [Int.toNat_natCast, HT.out]; exact hz⟩)
        clear hz
        go_enter Try.func70, Try.ntmps70
        go_wp2_with fail
        go_ret
        exact ⟨Says.yes HN.out, rfl⟩
      · have e1 := (ba_full hz).1
        have e2 := (ba_full hz).2
        have HN := hid (show ¬ Vc.Emp ts j from fun h => hz (by have := h.2.2; rwa [Int.toNat_natCast, HT.out] at this))
        clear hz
        go_enter Try.func70, Try.ntmps70
        go_wp2_with fail
        go_ret
        exact ⟨Says.no HN.out, rfl⟩
    · have d1 : decide (k < (n : Int)) = false := decide_eq_false h1
      have HN := hid (show ¬ Vc.Emp ts k from fun h => by have := h.2.1; omega)
      go_enter Try.func70, Try.ntmps70
      go_wp2_with fail
      go_ret
      exact ⟨Says.no HN.out, rfl⟩
  · have d1 : decide ((0 : Int) ≤ k) = false := decide_eq_false h0
    have HN := hid (show ¬ Vc.Emp ts k from fun h => by have := h.1; omega)
    go_enter Try.func70, Try.ntmps70
    go_wp2_with fail
    go_ret
    exact ⟨Says.no HN.out, rfl⟩

/-- The first place with such bytes, as a number; -1. -/
def Vc.First (ts : Vc.Toks) (s : ByteArray) (r : Int) : Prop :=
  (∃ j : Nat, r = j ∧ j < ts.length ∧ at_ ts j = s ∧ ∀ i, i < j → at_ ts i ≠ s) ∨ (r = -1 ∧ ∀ i, i < ts.length → at_ ts i ≠ s)

set_option maxHeartbeats 800000 in
theorem index_calls {w : World} {a : Option Addr} {n c : Nat} {ts : Vc.Toks} (V : Ts w a n c ts) (s : ByteArray) (hn : n ≤ maxLen) :
    Calls Try.prog 41 #[.slice a n c, .string s] w fun e w' => (∃ r, e = .returned (.int .i64 r) ∧ Vc.First ts s r) ∧ w' = w := by
  have hl := V.len
  have T0 := hid V
  have hx : n ≤ 9223372036854775807 := by unfold maxLen at hn; omega
  clear V hn
  go_enter Try.func41, Try.ntmps41
  go_wp2_with fail
  go_loopg [8] n (fun r iv wr => ∃ j : Nat, r = n - j ∧ j ≤ n ∧ iv = .int .i64 j ∧ Hid (∀ i, i < j → at_ ts i ≠ s) ∧ w = wr)
  case atStart => exact ⟨0, rfl, by omega, rfl, hid (fun i hi => by omega), rfl⟩
  case round =>
    obtain ⟨j, rfl, hj, rfl, HA, rfl⟩ := hrel
    by_cases hlt : j < n
    · have l0 : (0 : Int) ≤ j := by omega
      have l1 : (j : Int) < n := by omega
      have l2 : IntKind.i64.wrap ((j : Int) + 1) = j + 1 := i64_in (by omega) (by omega)
      obtain ⟨b, off, rfl, hbl, hc⟩ := T0.out.at' (by omega)
      have q1 := hc j hlt
      obtain ⟨t, ht⟩ : ∃ t, at_ ts j = t := ⟨_, rfl⟩
      rw [ht] at q1
      have HT := hid ht
      clear hc ht
      by_cases hs : s = t
      · subst hs
        go_wp2_with fail
        go_ret
        exact ⟨⟨_, rfl, .inl ⟨j, rfl, by omega, HT.out, HA.out⟩⟩, rfl⟩
      · have e1 : ¬ s.toList = t.toList := fun h => hs (ba_eq h)
        have e2 : (s.toList == t.toList) = false := beq_eq_false_iff_ne.mpr e1
        go_wp2_with fail
        go_roundg (n - (j + 1))
        case measure => omega
        case rel => exact ⟨j + 1, rfl, by omega, by go_num, hid (fun i hi => by
          by_cases h : i < j
          · exact HA.out i h
          · obtain rfl : i = j := by omega
            rw [HT.out]; exact fun e => hs e.symm), rfl⟩
    · have l1 : ¬ (j : Int) < n := by omega
      go_wp2_with fail
      go_ret
      exact ⟨⟨_, rfl, .inr ⟨rfl, fun i hi => HA.out i (by omega)⟩⟩, rfl⟩

/-- The number of a token: the least place; -1, if there is none, or the bytes are none. -/
def Vc.OfIs (ts : Vc.Toks) (s : ByteArray) (r : Int) : Prop := (s.size = 0 ∧ r = -1) ∨ (s.size ≠ 0 ∧ Vc.First ts s r)

set_option maxHeartbeats 800000 in
theorem of_calls {w : World} {a am az : Option Addr} {n c nm cm ns cs : Nat} {ts : Vc.Toks} (V : Ts w a n c ts) (s : ByteArray) :
    Calls Try.prog 26 #[.agg #[.slice a n c, .slice am nm cm, .slice az ns cs], .string s] w fun e w' => (∃ r, e = .returned (.int .i64 r) ∧ Vc.OfIs ts s r) ∧ Below w.heap.size w w' := by
  have hn := Nat.le_trans V.le V.mx
  have B0 := hid ((Below.refl w.heap.size w).alloc (Nat.le_refl _) (.cells #[.slice a n c, .slice am nm cm, .slice az ns cs] 26))
  have T0 := hid (V.below B0.out)
  clear V
  have HH := hid hn
  clear hn
  by_cases hz : s.size = 0
  · have e1 := (ba_empty hz).1
    have e2 := (ba_empty hz).2
    have HZ := hid hz
    clear hz
    go_enter Try.func26, Try.ntmps26
    go_wp2_with fail
    go_ret
    exact ⟨⟨_, rfl, .inl ⟨HZ.out, rfl⟩⟩, B0.out⟩
  · have e1 := (ba_full hz).1
    have e2 := (ba_full hz).2
    have HZ := hid hz
    clear hz
    go_enter Try.func26, Try.ntmps26
    go_wp2_with fail
    refine (index_calls T0.out s HH.out).mono ?_
    rintro e w2 ⟨⟨r, rfl, hr⟩, rfl⟩
    have HR := hid hr
    clear hr
    go_wp2_with fail
    go_ret
    exact ⟨⟨_, rfl, .inr ⟨HZ.out, HR.out⟩⟩, B0.out⟩

/-- The name of the first special of such a number. -/
def NmOut (sp : Vc.Sps) (k : Int) (e : Ending) : Prop :=
  (∃ j, j < sp.length ∧ kat sp j = k ∧ (∀ i, i < j → kat sp i ≠ k) ∧ e = .returned (.tuple #[.string (tat sp j), .bool true])) ∨ ((∀ i, i < sp.length → kat sp i ≠ k) ∧ e = .returned (.tuple #[.string ⟨#[]⟩, .bool false]))


/-- The number of the first special of such a name. -/
def Vc.IdIs (sp : Vc.Sps) (s : ByteArray) (r : Int) : Prop :=
  (∃ j, j < sp.length ∧ tat sp j = s ∧ (∀ i, i < j → tat sp i ≠ s) ∧ r = kat sp j) ∨ ((∀ i, i < sp.length → tat sp i ≠ s) ∧ r = -1)

end Go.Proofs.Ytcjakjmhghoilaa

/-
  Walks of what vocab.maySpecials leans on, and of itself.
-/
namespace Go.Proofs.Ytcjakjmhghoilaa
open Go.RowKit
set_option linter.unusedVariables false

theorem bl_iff (s t : ByteArray) : Op.bytesLess s.toList t.toList = true ↔ Vc.NLt s t := by
  rw [bytesLess_eq, decide_eq_true_eq, by_toList, by_toList]; exact Iff.rfl

set_option maxHeartbeats 800000 in
theorem nameFollow_calls (s1 s2 : ByteArray) (k1 k2 : Int) (w : World) :
    Calls Try.prog 67 #[.agg #[.string s1, .int .i64 k1], .agg #[.string s2, .int .i64 k2]] w fun e w' => Says e (Vc.NLt s1 s2) ∧ Below w.heap.size w w' := by
  have B0 := hid (((Below.refl w.heap.size w).alloc (Nat.le_refl _) (.cells #[.string s1, .int .i64 k1] 73)).alloc (by simp) (.cells #[.string s2, .int .i64 k2] 73))
  obtain ⟨t, ht⟩ : ∃ t, Op.bytesLess s1.toList s2.toList = t := ⟨_, rfl⟩
  have HT := hid (bl_iff s1 s2)
  rw [ht] at HT
  go_enter Try.func67, Try.ntmps67
  go_wp2_with fail
  go_ret
  exact ⟨⟨t, rfl, HT.out⟩, B0.out⟩

theorem four_cells {w w' : World} (h : Below w.heap.size w w') {b : Nat} (hb : b < w.heap.size) {a0 a1 a2 a3 : Nat} {v0 v1 v2 v3 : Value}
    (hs : w.cell? ⟨b, a0, none⟩ = some v0 ∧ w.cell? ⟨b, a1, none⟩ = some v1 ∧ w.cell? ⟨b, a2, none⟩ = some v2 ∧ w.cell? ⟨b, a3, none⟩ = some v3) :
    w'.cell? ⟨b, a0, none⟩ = some v0 ∧ w'.cell? ⟨b, a1, none⟩ = some v1 ∧ w'.cell? ⟨b, a2, none⟩ = some v2 ∧ w'.cell? ⟨b, a3, none⟩ = some v3 := by
  simp only [h.cell (show (⟨b, _, none⟩ : Addr).block < w.heap.size from hb)]
  exact hs

/-- Each name stands ahead of the next one. -/
def Vc.RowS (sp : Vc.Sps) : Prop := ∀ i, i + 1 < sp.length → Vc.NLt (tat sp i) (tat sp (i + 1))

set_option maxRecDepth 100000 in
set_option maxHeartbeats 3200000 in
theorem holdsS_calls {w : World} {a : Option Addr} {n c : Nat} {sp : Vc.Sps} (V : Rw w a n c sp) (hn : n ≤ 16384) :
    Calls Try.prog 68 #[.slice a n c, .func (.func 67) #[] #[]] w fun e w' => Says e (Vc.RowS sp) ∧ Below w.heap.size w w' := by
  have hl := V.len
  have T0 := hid V
  clear V
  go_enter Try.func68, Try.ntmps68
  go_wp2_with fail
  go_loopg [5] n (fun r iv wr => ∃ j : Nat, r = n - j ∧ iv = .int .i64 ((j : Int) + 1) ∧ Hid (∀ i, i < j → i + 1 < n → Vc.NLt (tat sp i) (tat sp (i + 1))) ∧ j ≤ n ∧ Hid (Below w.heap.size w wr))
  case atStart => exact ⟨0, rfl, rfl, hid (fun i hi => by omega), by omega, hid (Below.refl _ _)⟩
  case round =>
    obtain ⟨j, rfl, rfl, HA, hj, HB⟩ := hrel
    by_cases hlt : j + 1 < n
    · have k1 : (j : Int) + 1 < n := by omega
      have k0 : (0 : Int) ≤ j := by omega
      have k2 : (0 : Int) ≤ (j : Int) + 1 := by omega
      have k3 : (j : Int) < n := by omega
      have e1 : IntKind.i64.wrap ((j : Int) + 1 - 1) = j := by rw [i64_in (by omega) (by omega)]; omega
      have e3 : IntKind.i64.wrap (j : Int) = j := i64_in (by omega) (by omega)
      have e4 : (1 : Int) ≤ (j : Int) + 1 := by omega
      have e2 : IntKind.i64.wrap ((j : Int) + 1 + 1) = j + 1 + 1 := i64_in (by omega) (by omega)
      obtain ⟨b, off, rfl, hbl, hc⟩ := (T0.out.below HB.out).at' (by omega)
      obtain ⟨p0, p1⟩ := hc j (by omega)
      obtain ⟨q0, q1⟩ := hc (j + 1) hlt
      obtain ⟨x0, hx0⟩ : ∃ x, tat sp j = x := ⟨_, rfl⟩
      obtain ⟨x1, hx1⟩ : ∃ x, kat sp j = x := ⟨_, rfl⟩
      obtain ⟨y0, hy0⟩ : ∃ x, tat sp (j + 1) = x := ⟨_, rfl⟩
      obtain ⟨y1, hy1⟩ : ∃ x, kat sp (j + 1) = x := ⟨_, rfl⟩
      rw [hx0] at p0
      rw [hx1] at p1
      rw [hy0] at q0
      rw [hy1] at q1
      have HX := hid hx0
      have HY := hid hy0
      clear hc hx0 hx1 hy0 hy1
      go_wp2_with fail
      go_region_held3 (fun w' => w'.cell? ⟨b, off + j * 2, none⟩ = some (.string x0) ∧ w'.cell? ⟨b, off + j * 2 + 1, none⟩ = some (.int .i64 x1) ∧ w'.cell? ⟨b, off + (j + 1) * 2, none⟩ = some (.string y0) ∧ w'.cell? ⟨b, off + (j + 1) * 2 + 1, none⟩ = some (.int .i64 y1)) (first | exact N2.out | go_keep | simp) (first | (go_at_call 67; refine (nameFollow_calls _ _ _ _ _).mono ?_; rintro e w2 ⟨⟨t, rfl, ht⟩, b2⟩; have N2 := hid (four_cells b2 hbl ⟨p0, p1, q0, q1⟩); have B2 := hid (HB.out.drew.trans (b2.mono HB.out.size)); have HT := hid ht; clear b2 ht))
      cases t
      · have HN := hid (show ¬ Vc.RowS sp from fun h => by
          have h1 := h j (by omega)
          rw [HX.out, HY.out] at h1
          simpa using HT.out.2 h1)
        go_wp2_with fail
        go_ret
        exact ⟨Says.no HN.out, B2.out⟩
      · have HN := hid (HT.out.1 rfl)
        go_wp2_with fail
        go_roundg (n - (j + 1))
        case measure => omega
        case rel => exact ⟨j + 1, rfl, by go_num, hid (fun i hi h2 => by
          by_cases h : i < j
          · exact HA.out i h h2
          · obtain rfl : i = j := by omega
            rw [HX.out, HY.out]
            exact HN.out), by omega, B2⟩
    · have k1 : ¬ ((j : Int) + 1 < n) := by omega
      have HN := hid (show Vc.RowS sp from fun i hi => HA.out i (by omega) (by omega))
      go_wp2_with fail
      go_ret
      exact ⟨Says.yes HN.out, HB.out⟩

set_option maxHeartbeats 800000 in
theorem sameID_calls {w : World} {B : Nat} {s : ByteArray} {x : Int} (X : Bx2 w B 73 (.string s) (.int .i64 x)) (s1 : ByteArray) (k1 : Int) :
    Calls Try.prog 71 #[.agg #[.string s1, .int .i64 k1], .pointer (some ⟨B, 0, none⟩)] w fun e w' => Says e (k1 = x) ∧ Below w.heap.size w w' := by
  have B0 := hid ((Below.refl w.heap.size w).alloc (Nat.le_refl _) (.cells #[.string s1, .int .i64 k1] 73))
  have X0 := hid (X.alloc (.cells #[.string s1, .int .i64 k1] 73))
  have x1 := X0.out.cell1
  clear X
  by_cases h : k1 = x
  · subst h
    go_enter Try.func71, Try.ntmps71
    go_wp2_with fail
    go_ret
    exact ⟨Says.yes trivial, B0.out⟩
  · have d : (k1 == x) = false := by simpa using h
    have H := hid h
    clear h
    go_enter Try.func71, Try.ntmps71
    go_wp2_with fail
    go_ret
    exact ⟨Says.no H.out, B0.out⟩

set_option maxHeartbeats 1600000 in
theorem indexFuncS_calls {w : World} {a : Option Addr} {n c B : Nat} {sp : Vc.Sps} {s : ByteArray} {x : Int} (V : Rw w a n c sp) (X : Bx2 w B 73 (.string s) (.int .i64 x)) :
    Calls Try.prog 81 #[.slice a n c, .func (.func 71) #[] #[.pointer (some ⟨B, 0, none⟩)]] w fun e w' => (∃ r : Int, e = .returned (.int .i64 r) ∧ ((0 ≤ r ∧ ∃ i, i < n ∧ kat sp i = x) ∨ (r = -1 ∧ ∀ i, i < n → kat sp i ≠ x))) ∧ Below w.heap.size w w' := by
  have hl := V.len
  have hx : n ≤ 9223372036854775807 := by have := V.le; have := V.mx; unfold maxLen at this; omega
  have T0 := hid V
  have XW := hid X
  clear V X
  go_enter Try.func81, Try.ntmps81
  go_wp2_with fail
  go_loopg [8] n (fun r iv wr => ∃ j : Nat, r = n - j ∧ iv = .int .i64 (j : Int) ∧ j ≤ n ∧ Hid (∀ i, i < j → kat sp i ≠ x) ∧ Hid (Below w.heap.size w wr))
  case atStart => exact ⟨0, rfl, rfl, by omega, hid (fun i hi => by omega), hid (Below.refl _ _)⟩
  case round =>
    obtain ⟨j, rfl, rfl, hj, HA, HB⟩ := hrel
    by_cases hlt : j < n
    · have l0 : (0 : Int) ≤ j := by omega
      have l1 : (j : Int) < n := by omega
      have l2 : IntKind.i64.wrap ((j : Int) + 1) = j + 1 := i64_in (by omega) (by omega)
      obtain ⟨b, off, rfl, hbl, hc⟩ := (T0.out.below HB.out).at' (by omega)
      obtain ⟨q1, q2⟩ := hc j hlt
      obtain ⟨t0, ht⟩ : ∃ t, tat sp j = t := ⟨_, rfl⟩
      obtain ⟨x1, hx1⟩ : ∃ x, kat sp j = x := ⟨_, rfl⟩
      rw [ht] at q1
      rw [hx1] at q2
      have HX := hid hx1
      clear hc ht hx1
      go_wp2_with fail
      refine (sameID_calls (XW.out.below HB.out XW.out.lt) t0 x1).mono ?_
      rintro e w2 ⟨⟨t, rfl, ht⟩, b2⟩
      have HT := hid ht
      have B2 := hid (HB.out.trans (b2.mono HB.out.size))
      clear ht b2
      cases t
      · go_wp2_with fail
        go_roundg (n - (j + 1))
        case measure => omega
        case rel => exact ⟨j + 1, rfl, by go_num, by omega, hid (fun i hi => by
          by_cases h : i < j
          · exact HA.out i h
          · obtain rfl : i = j := by omega
            rw [HX.out]; exact fun e => absurd (HT.out.2 e) (by decide)), B2⟩
      · have HY := hid (HT.out.1 rfl)
        go_wp2_with fail
        go_ret
        exact ⟨⟨_, rfl, .inl ⟨by omega, j, hlt, by rw [HX.out]; exact HY.out⟩⟩, B2.out⟩
    · have l1 : ¬ (j : Int) < n := by omega
      go_wp2_with fail
      go_ret
      exact ⟨⟨_, rfl, .inr ⟨rfl, fun i hi => HA.out i (by omega)⟩⟩, HB.out⟩

set_option maxHeartbeats 800000 in
theorem containsFuncS_calls {w : World} {a : Option Addr} {n c B : Nat} {sp : Vc.Sps} {s : ByteArray} {x : Int} (V : Rw w a n c sp) (X : Bx2 w B 73 (.string s) (.int .i64 x)) :
    Calls Try.prog 72 #[.slice a n c, .func (.func 71) #[] #[.pointer (some ⟨B, 0, none⟩)]] w fun e w' => Says e (∃ i, i < n ∧ kat sp i = x) ∧ Below w.heap.size w w' := by
  go_enter Try.func72, Try.ntmps72
  go_wp2_with fail
  refine (indexFuncS_calls V X).mono ?_
  rintro e w2 ⟨⟨r, rfl, hr⟩, b2⟩
  have B2 := hid b2
  clear b2 V X
  rcases hr with ⟨h0, hi⟩ | ⟨rfl, hi⟩
  · have HI := hid hi
    clear hi
    go_wp2_with fail
    go_ret
    exact ⟨Says.yes HI.out, B2.out⟩
  · have HI := hid (show ¬ ∃ i, i < n ∧ kat sp i = x from fun ⟨i, h1, h2⟩ => hi i h1 h2)
    clear hi
    go_wp2_with fail
    go_ret
    exact ⟨Says.no HI.out, B2.out⟩

theorem nlt_trans {a b c : ByteArray} (h : Vc.NLt a b) (k : Vc.NLt b c) : Vc.NLt a c := List.lt_trans h k
theorem rowS_all {sp : Vc.Sps} (h : Vc.RowS sp) : ∀ k i, i < k → k < sp.length → Vc.NLt (tat sp i) (tat sp k)
  | 0, i, hi, _ => absurd hi (Nat.not_lt_zero _)
  | k + 1, i, hi, hk => by
    by_cases hik : i = k
    · subst hik; exact h i hk
    · exact nlt_trans (rowS_all h k i (by omega) (by omega)) (h k hk)

set_option maxRecDepth 100000 in
set_option maxHeartbeats 3200000 in
theorem maySpecials_calls {w : World} {a am az : Option Addr} {n c nm cm ns cs : Nat} {ts : Vc.Toks} {sp : Vc.Sps} (V : Ts w a n c ts) (Q : Rw w az ns cs sp) :
    Calls Try.prog 54 #[.agg #[.slice a n c, .slice am nm cm, .slice az ns cs]] w fun e w' => Says e (Vc.MayS ts sp) ∧ Below w.heap.size w w' := by
  have hl := V.len
  have hls := Q.len
  have hlc := Q.le
  have B0 := hid ((Below.refl w.heap.size w).alloc (Nat.le_refl _) (.cells #[.slice a n c, .slice am nm cm, .slice az ns cs] 26))
  have X0 := hid (Bx3.new w 26 (.slice a n c) (.slice am nm cm) (.slice az ns cs))
  have s0 : (w.alloc (.cells #[.slice a n c, .slice am nm cm, .slice az ns cs] 26)).heap.size = w.heap.size + 1 := by simp
  have Q0 := hid (Q.below B0.out)
  have TW := hid V
  have QW := hid Q
  clear V Q
  by_cases h0 : (16 : Int) < ns
  · have HN := hid (show ¬ Vc.MayS ts sp from fun h => by have := h.len; omega)
    go_enter Try.func54, Try.ntmps54
    go_wp2_with fail
    go_ret
    exact ⟨Says.no HN.out, B0.out⟩
  have hm : ns ≤ 16 := by omega
  go_enter Try.func54, Try.ntmps54
  go_wp2_with fail
  refine (holdsS_calls Q0.out (by omega)).mono ?_
  rintro e w1 ⟨⟨t, rfl, ht⟩, b1⟩
  have HR := hid ht
  have X1 := hid (X0.out.below b1 X0.out.lt)
  have hw1 := b1.size
  rw [s0] at hw1
  have B1 := hid (B0.out.trans (b1.mono B0.out.size))
  clear b1 ht X0 B0 Q0
  have x12 := X1.out.cell2
  cases t
  · have HN := hid (show ¬ Vc.MayS ts sp from fun h => absurd (HR.out.2 (fun i hi => (h.both i (i + 1) (by omega) hi).1)) (by decide))
    go_wp2_with fail
    go_ret
    exact ⟨Says.no HN.out, B1.out⟩
  have HRow := hid (HR.out.1 rfl)
  clear HR
  go_wp2_with fail
  go_loopg [19] ns (fun r iv wr => ∃ j : Nat, r = ns - j ∧ iv = .int .i64 (j : Int) ∧ j ≤ ns ∧ Hid (∀ i, i < j → Vc.NameOk (tat sp i) ∧ Vc.Emp ts (kat sp i)) ∧ Hid (∀ i k, i < k → k < j → kat sp i ≠ kat sp k) ∧ Hid (Bx3 wr w.heap.size 26 (.slice a n c) (.slice am nm cm) (.slice az ns cs)) ∧ Hid (Below w.heap.size w wr))
  case atStart => exact ⟨0, rfl, rfl, by omega, hid (fun i hi => by omega), hid (fun i k _ hk => by omega), X1, B1⟩
  case round =>
    obtain ⟨j, rfl, rfl, hj, HA, HP, HX, HB⟩ := hrel
    by_cases hlt : j < ns
    · have k1 : (j : Int) < ns := by omega
      have k0 : (0 : Int) ≤ j := by omega
      have kc : (j : Int) ≤ cs := by omega
      have e2 : IntKind.i64.wrap ((j : Int) + 1) = j + 1 := i64_in (by omega) (by omega)
      obtain ⟨b, off, rfl, hbl, hc⟩ := (QW.out.below HB.out).at' (by omega)
      obtain ⟨p0, p1⟩ := hc j hlt
      obtain ⟨s, hs⟩ : ∃ x, tat sp j = x := ⟨_, rfl⟩
      obtain ⟨x, hx⟩ : ∃ x, kat sp j = x := ⟨_, rfl⟩
      rw [hs] at p0
      rw [hx] at p1
      have HS := hid hs
      have HK := hid hx
      have X3 := hid (HX.out.alloc (.cells #[.string s, .int .i64 x] 73))
      have Y3 := hid (Bx2.new wr 73 (.string s) (.int .i64 x))
      have B3 := hid (HB.out.alloc HB.out.size (.cells #[.string s, .int .i64 x] 73))
      have z0 := X3.out.cell0
      have z2 := X3.out.cell2
      have y0 := Y3.out.cell0
      have y1 := Y3.out.cell1
      clear hc hs hx
      go_wp2_with fail
      refine (mayName_calls s _).mono ?_
      rintro e w4 ⟨⟨t, rfl, ht⟩, rfl⟩
      have HO := hid ht
      clear ht
      cases t
      · have HN := hid (show ¬ Vc.MayS ts sp from fun h => by
          have := (h.ok j (by omega)).1
          rw [HS.out] at this
          exact absurd (HO.out.2 this) (by decide))
        go_wp2_with fail
        go_ret
        exact ⟨Says.no HN.out, B3.out⟩
      have HOk := hid (HO.out.1 rfl)
      clear HO
      go_wp2_with fail
      refine (isEmpty_calls (TW.out.below B3.out) x).mono ?_
      rintro e w4 ⟨⟨t, rfl, ht⟩, rfl⟩
      have HO := hid ht
      clear ht
      cases t
      · have HN := hid (show ¬ Vc.MayS ts sp from fun h => by
          have := (h.ok j (by omega)).2
          rw [HK.out] at this
          exact absurd (HO.out.2 this) (by decide))
        go_wp2_with fail
        go_ret
        exact ⟨Says.no HN.out, B3.out⟩
      have HEm := hid (HO.out.1 rfl)
      clear HO
      go_wp2_with fail
      refine (containsFuncS_calls ((QW.out.below B3.out).first j (by omega)) Y3.out).mono ?_
      rintro e w5 ⟨⟨t, rfl, ht⟩, b5⟩
      have HO := hid (show t = true ↔ ∃ i, i < j ∧ kat sp i = x from ht.trans ⟨fun ⟨i, hi, h⟩ => ⟨i, hi, by rw [← h]; simp [kat, List.getD_eq_getElem?_getD, hi]⟩, fun ⟨i, hi, h⟩ => ⟨i, hi, by rw [← h]; simp [kat, List.getD_eq_getElem?_getD, hi]⟩⟩)
      have X5 := hid (X3.out.below b5 X3.out.lt)
      have B5 := hid (B3.out.trans (b5.mono B3.out.size))
      clear ht b5 X3 B3 Y3 z0 z2 y0 y1
      cases t
      · go_wp2_with fail
        go_roundg (ns - (j + 1))
        case measure => omega
        case rel =>
          refine ⟨j + 1, rfl, by go_num, by omega, hid (fun i hi => ?_), hid (fun i k hik hk => ?_), X5, B5⟩
          · by_cases h : i < j
            · exact HA.out i h
            · obtain rfl : i = j := by omega
              rw [HS.out, HK.out]; exact ⟨HOk.out, HEm.out⟩
          · by_cases h : k < j
            · exact HP.out i k hik h
            · obtain rfl : k = j := by omega
              rw [HK.out]
              intro hc
              exact absurd (HO.out.2 ⟨i, hik, hc⟩) (by decide)
      · have HN := hid (show ¬ Vc.MayS ts sp from fun h => by
          obtain ⟨i, hi, h1⟩ := HO.out.1 rfl
          exact (h.both i j hi (by omega)).2 (by rw [h1, HK.out]))
        go_wp2_with fail
        go_ret
        exact ⟨Says.no HN.out, B5.out⟩
    · have k1 : ¬ ((j : Int) < ns) := by omega
      have HN := hid (show Vc.MayS ts sp from ⟨by omega, fun i hi => HA.out i (by omega), fun i k hik hk => ⟨rowS_all HRow.out k i hik hk, HP.out i k hik (by omega)⟩⟩)
      go_wp2_with fail
      go_ret
      exact ⟨Says.yes HN.out, HB.out⟩
end Go.Proofs.Ytcjakjmhghoilaa

/-
  Maps in memory over calls that make memory; two numbers as a key; look-ups in the map of the tokens' numbers.
-/
namespace Go.Proofs.Ytcjakjmhghoilaa
open Go.RowKit Go.Maps
set_option linter.unusedVariables false

theorem owns_below {H : Type} {P : Program} {k : TypeId} {R : Value → Option (DataW H × List MemPlace)} {w w' : World} {b n N : Nat} {D : DataW H} (h : w.ownsMap P k R b n D) (hb : Below N w w') (hn : b < N) : w'.ownsMap P k R b n D := by
  obtain ⟨es, clock, h1, r⟩ := h
  exact ⟨es, clock, (hb.block b hn).trans h1, r⟩
theorem NumsIn.below {w w' : World} {M j N : Nat} {ts : Vc.Toks} (h : NumsIn w M ts j) (hb : Below N w w') (hn : M < N) : NumsIn w' M ts j := by
  obtain ⟨m, D, hm, ho, hd⟩ := h
  exact ⟨m, D, hm, owns_below ho hb hn, hd⟩
theorem NumsIn.alloc {w : World} {M j : Nat} {ts : Vc.Toks} (h : NumsIn w M ts j) (o : Obj) : NumsIn (w.alloc o) M ts j := by
  obtain ⟨m, D, hm, ho, hd⟩ := h
  exact ⟨m, D, hm, ho.alloc o, hd⟩
theorem NumsIn.drew {w : World} {M j : Nat} {ts : Vc.Toks} (h : NumsIn w M ts j) : NumsIn w.drew M ts j := h
theorem NumsIn.lt {w : World} {M j : Nat} {ts : Vc.Toks} (h : NumsIn w M ts j) : M < w.heap.size := by
  obtain ⟨m, D, hm, ho, hd⟩ := h
  exact ho.lt
theorem NumsIn.kept {w w' : World} {M j : Nat} {ts : Vc.Toks} {row : Option Nat} (h : NumsIn w M ts j) (hg : w.grownBy w' row) (hne : some M ≠ row) : NumsIn w' M ts j := by
  obtain ⟨m, D, hm, ho, hd⟩ := h
  exact ⟨m, D, hm, ho.kept hg hne, hd⟩

theorem Try.zeroI (w : World) : (zeroValue 3).run Try.prog w = .ok (.int .i64 0) w := by kernel_rfl
theorem Try.zeroU (w : World) : (zeroValue 124).run Try.prog w = .ok (.agg #[]) w := by kernel_rfl

/-- What a look-up of a text says. -/
theorem NumsIn.look {w : World} {M j : Nat} {ts : Vc.Toks} (h : NumsIn w M ts j) (s : ByteArray) (hs : s.size ≤ maxLen) :
    ∃ (c : Int) (t : Bool), (Instr.lookup 116 (.map (some M)) (.string s) true).run Try.prog w = .ok (.tuple #[.int .i64 c, .bool t]) w ∧ ((t = true ∧ ∃ k : Nat, c = k ∧ Vc.lastOf ts j s = some k) ∨ (t = false ∧ Vc.lastOf ts j s = none)) := by
  obtain ⟨m, D, hm, ho, hd⟩ := h
  obtain ⟨v, ps, hrun, hv⟩ := ho.look_ok (string_keyed Try.underlying9) Try.underlying116 (Try.zeroI w) (plainElem_int Try.underlying3 (by decide)) (Go.WideMaps.keyOf_string_mk Try.underlying9 hs)
  obtain ⟨c, rfl, hc, hwc⟩ := plainElem_int_inv Try.underlying3 hv
  refine ⟨c, _, hrun, ?_⟩
  obtain ⟨h1, h2⟩ := hd s
  cases hq : Vc.lastOf ts j s with
  | none => right; rw [hq] at h1; exact ⟨h1, rfl⟩
  | some k =>
    left
    rw [hq] at h1
    refine ⟨h1, k, ?_, rfl⟩
    have h3 := h2 k hq
    simp only [Prod.mk.injEq] at hc
    have h4 := hc.1
    rw [show D.atKey (Lit.string s.data.toList) (DataW.lit (Lit.int IntKind.i64 0)) = DataW.lit (Lit.int .i64 (k : Int)) from h3] at h4
    simpa using h4.symm
theorem NumsIn.look1 {w : World} {M j : Nat} {ts : Vc.Toks} (h : NumsIn w M ts j) (s : ByteArray) (hs : s.size ≤ maxLen) {k : Nat} (hk : Vc.lastOf ts j s = some k) :
    (Instr.lookup 116 (.map (some M)) (.string s) false).run Try.prog w = .ok (.int .i64 (k : Int)) w := by
  obtain ⟨m, D, hm, ho, hd⟩ := h
  obtain ⟨c, hrun, hat, _⟩ := ho.lookup_int (string_keyed Try.underlying9) Try.underlying116 Try.underlying3 (Try.zeroI w) (Go.WideMaps.keyOf_string_mk Try.underlying9 hs)
  have h3 := (hd s).2 k hk
  rw [show D.atKey (Lit.string s.data.toList) (DataW.lit (Lit.int IntKind.i64 0)) = DataW.lit (Lit.int .i64 (k : Int)) from h3] at hat
  have : c = k := by simpa using hat.symm
  rw [hrun, this]

/-! ### Two numbers as a key -/
theorem Try.laidOut : laidOutB Try.prog = true := by kernel_rfl
theorem Try.rowPt : (123 : TypeId) < Try.prog.types.size := of_decide_eq_true (by kernel_rfl)
theorem Try.cellsPt : Try.prog.cellsOf 123 = 2 := by kernel_rfl
theorem Try.deepPt : Try.prog.keyTypeAt (Try.prog.types.size + 1) 123 = true := by kernel_rfl
theorem Try.keyPt3 : Try.prog.keyTypeAt 3 123 = true := by kernel_rfl
theorem Try.keyed : Keyed Try.prog 123 := by
  refine Keyed.of_law (deep_law_laid Try.laidOut (m := 3) (by omega) Try.rowPt Try.keyPt3 ?_)
  rw [Try.underlying123]
theorem Try.formedPt {c0 c1 : Value} : (Value.agg #[c0, c1]).formed Try.prog 123 = true := by simp [Value.formed, Try.underlying123, Try.cellsPt]
theorem keyLits_two {P : Program} {t e : TypeId} {f0 f1 : Field} {d : Nat} {l r : Int} (hu : P.underlying t = some (.struct #[f0, f1])) (he : P.underlying e = some (.int .i64)) (t0 : f0.type = e) (t1 : f1.type = e) (o0 : f0.offset = 0) (o1 : f1.offset = 1) (n0 : (f0.name != "_") = true) (n1 : (f1.name != "_") = true)
    (hc : P.cellsOf t = 2) (hce : P.cellsOf e = 1) (hl : (Lit.int .i64 l).wf = true) (hr : (Lit.int .i64 r).wf = true) : P.keyLits (d + 1 + 1) t [.int .i64 l, .int .i64 r] = some [.int .i64 l, .int .i64 r] := by
  have a : P.keyLits (d + 1) e [.int .i64 l] = some [.int .i64 l] := by simp [Program.keyLits, he, hl]
  have b : P.keyLits (d + 1) e [.int .i64 r] = some [.int .i64 r] := by simp [Program.keyLits, he, hr]
  unfold Program.keyLits
  rw [hu]
  show (if [Value.int .i64 l, Value.int .i64 r].length = P.cellsOf t ∧ (#[f0, f1] : Array Field).all (·.name != "_") = true then ((#[f0, f1] : Array Field).toList.mapM fun f => P.keyLits (d + 1) f.type (([Value.int .i64 l, Value.int .i64 r].drop f.offset).take (P.cellsOf f.type))).map List.flatten else none) = _
  rw [if_pos ⟨by rw [hc]; rfl, by simp [n0, n1]⟩]
  simp [t0, t1, o0, o1, hce, a, b]
theorem Try.sizeTy : ∃ d, Try.prog.types.size = d + 1 := ⟨Try.prog.types.size - 1, by have : 0 < Try.prog.types.size := of_decide_eq_true (by kernel_rfl); omega⟩
theorem Try.keyTy : Try.prog.keyType 123 = true := by kernel_rfl
theorem Try.cellsI : Try.prog.cellsOf 3 = 1 := by kernel_rfl
theorem key_pt (l r : Int) (hl : (Lit.int .i64 l).wf = true) (hr : (Lit.int .i64 r).wf = true) : ∃ kl, keyOf Try.prog 123 (.agg #[.int .i64 l, .int .i64 r]) = some kl := by
  obtain ⟨d, hd⟩ := Try.sizeTy
  have h := keyLits_two (d := d) Try.underlying123 Try.underlying3 rfl rfl rfl rfl (by decide) (by decide) Try.cellsPt Try.cellsI hl hr
  refine ⟨.string (keyBytes [.int .i64 l, .int .i64 r]), ?_⟩
  unfold keyOf
  rw [Try.underlying123]
  show (if (Try.prog.keyType 123 && (Value.agg #[.int .i64 l, .int .i64 r]).formed Try.prog 123) = true then (Try.prog.keyLits (Try.prog.types.size + 1) 123 [.int .i64 l, .int .i64 r]).map fun ls => Lit.string (keyBytes ls) else none) = _
  rw [Try.keyTy, Try.formedPt, if_pos (by rfl), hd, h]
  rfl
end Go.Proofs.Ytcjakjmhghoilaa

/-
  Walk of vocab.mayTokens.
-/
namespace Go.Proofs.Ytcjakjmhghoilaa
open Go.RowKit Go.Maps
set_option linter.unusedVariables false

theorem one_size (b : Nat) : (Vc.one b).size = 1 := rfl
theorem u8_in' {n : Int} (h0 : 0 ≤ n) (h1 : n ≤ 255) : IntKind.u8.wrap n = n := by
  rw [IntKind.wrap_u8]; omega
theorem cv_one (w : World) (j : Nat) : (convert 27 9 (.slice (some ⟨w.heap.size, 0, none⟩) 1 1)).run Try.prog (w.alloc (.cells #[.int .u8 (j : Int)] 5)) = .ok (.string (Vc.one j)) (w.alloc (.cells #[.int .u8 (j : Int)] 5)) := by
  have h := run_convert_new (P := Try.prog) w 27 5 9 Try.underlying27 Try.underlying5 Try.underlying9 [(j : Int)] 1 rfl 5
  have e : strOfNums [(j : Int)] = Vc.one j := by simp [strOfNums, Vc.one, mk]
  rw [e] at h
  exact h

set_option maxRecDepth 100000 in
set_option maxHeartbeats 3200000 in
theorem mayTokens_calls {w : World} {a : Option Addr} {n c : Nat} {ts : Vc.Toks} (V : Ts w a n c ts) (hz : ∀ i, i < n → (at_ ts i).size ≤ maxLen) :
    Calls Try.prog 51 #[.slice a n c] w fun e w' => Says e (Vc.MayT ts) ∧ Below w.heap.size w w' := by
  have hl := V.len
  have TW := hid V
  have HZ := hid hz
  clear V hz
  by_cases h0 : (4096 : Int) < n
  · have HN := hid (show ¬ Vc.MayT ts from fun h => by have := h.len; omega)
    go_enter Try.func51, Try.ntmps51
    go_wp2_with fail
    go_ret
    exact ⟨Says.no HN.out, Below.refl _ _⟩
  have hn : n ≤ 4096 := by omega
  go_enter Try.func51, Try.ntmps51
  go_wp2_with fail
  refine (numbersOf_calls TW.out hn HZ.out).mono ?_
  rintro e w1 ⟨rfl, hN, b1⟩
  have HN := hid hN
  have B1 := hid b1
  clear hN b1
  go_wp2_with fail
  go_loopg [16] n (fun r iv wr => ∃ j : Nat, r = n - j ∧ iv = .int .i64 (j : Int) ∧ j ≤ n ∧ Hid (∀ i, i < j → (at_ ts i).size ≤ 64 ∧ ((at_ ts i).size ≠ 0 → Vc.lastOf ts n (at_ ts i) = some i)) ∧ w1 = wr)
  case atStart => exact ⟨0, rfl, rfl, by omega, hid (fun i hi => by omega), rfl⟩
  case round =>
    obtain ⟨j, rfl, rfl, hj, HA, rfl⟩ := hrel
    by_cases hlt : j < n
    · have i1 : (j : Int) < n := by omega
      have i0' : (0 : Int) ≤ j := by omega
      have e2 : IntKind.i64.wrap ((j : Int) + 1) = j + 1 := i64_in (by omega) (by omega)
      obtain ⟨b, off, rfl, hbl, hc⟩ := (TW.out.below B1.out).at' (by omega)
      have q1 := hc j hlt
      have hzj := HZ.out j hlt
      obtain ⟨t, ht⟩ : ∃ t, at_ ts j = t := ⟨_, rfl⟩
      rw [ht] at q1 hzj
      have HT := hid ht
      clear hc ht
      by_cases h64 : (64 : Int) < t.size
      · have HX := hid (show ¬ Vc.MayT ts from fun h => by have := h.sz j (by omega); rw [HT.out] at this; omega)
        go_wp2_with fail
        go_ret
        exact ⟨Says.no HX.out, B1.out⟩
      have d64 : decide ((64 : Int) < t.size) = false := decide_eq_false h64
      by_cases hz : t.size = 0
      · have e1 := (ba_empty hz).1
        have e3 := (ba_empty hz).2
        have HS := hid hz
        clear hz
        go_wp2_with fail
        go_roundg (n - (j + 1))
        case measure => omega
        case rel => exact ⟨j + 1, rfl, by go_num, by omega, hid (fun i hi => by
          by_cases h : i < j
          · exact HA.out i h
          · obtain rfl : i = j := by omega
            rw [HT.out]
            exact ⟨by rw [HS.out]; omega, fun h => absurd HS.out h⟩), rfl⟩
      · have e1 := (ba_full hz).1
        have e3 := (ba_full hz).2
        obtain ⟨k, hk, hjk⟩ := Vc.lastOf_has (ts := ts) hlt (by rw [HT.out]; exact hz)
        rw [HT.out] at hk
        have hlk := HN.out.look1 t hzj hk
        have HS := hid hz
        have HK := hid hk
        clear hz hk
        by_cases hkj : k = j
        · subst hkj
          go_wp2_with fail
          go_roundg (n - (k + 1))
          case measure => omega
          case rel => exact ⟨k + 1, rfl, by go_num, by omega, hid (fun i hi => by
            by_cases h : i < k
            · exact HA.out i h
            · obtain rfl : i = k := by omega
              rw [HT.out]
              exact ⟨by omega, fun h => HK.out⟩), rfl⟩
        · have HX := hid (show ¬ Vc.MayT ts from fun h => hkj (by
            obtain ⟨q1, q2, q3⟩ := Vc.lastOf_some HK.out
            exact (h.apart j k (by omega) (by omega) (by rw [HT.out]; exact HS.out) (by rw [HT.out, q2])).symm))
          have d5 : ((k : Int) == (j : Int)) = false := by simp; omega
          have d6 : ¬ (k : Int) = j := by omega
          go_wp2_with fail
          go_ret
          exact ⟨Says.no HX.out, B1.out⟩
    · obtain rfl : j = n := by omega
      have k1 : ¬ ((j : Int) < j) := by omega
      go_wp2_with fail
      go_loopg [34] 256 (fun r iv wr => ∃ b : Nat, r = 256 - b ∧ iv = .int .i64 (b : Int) ∧ b ≤ 256 ∧ Hid (∀ i, i < b → ∃ k, k < j ∧ at_ ts k = Vc.one i) ∧ Hid (NumsIn wr w.heap.size ts j) ∧ Hid (Below w.heap.size w wr))
      case atStart => exact ⟨0, rfl, rfl, by omega, hid (fun i hi => by omega), HN, B1⟩
      case round =>
        obtain ⟨b, rfl, rfl, hb, HC, HM, HB⟩ := hrel
        by_cases hlt : b < 256
        · have i1 : (b : Int) < 256 := by omega
          have i0' : (0 : Int) ≤ b := by omega
          have e2 : IntKind.i64.wrap ((b : Int) + 1) = b + 1 := i64_in (by omega) (by omega)
          have e3 : IntKind.u8.wrap (b : Int) = b := u8_in' (by omega) (by omega)
          have cv := cv_one wr b
          obtain ⟨cc, t, hlk, hcase⟩ := (HM.out.alloc (.cells #[.int .u8 (b : Int)] 5)).look (Vc.one b) (by rw [one_size]; unfold maxLen; omega)
          have HCS := hid hcase
          clear hcase
          obtain ⟨S, hS⟩ : ∃ S, Vc.one b = S := ⟨_, rfl⟩
          rw [hS] at cv hlk HCS
          have HSS := hid hS
          clear hS
          cases t
          · have HX := hid (show ¬ Vc.MayT ts from fun h => by
              rcases HCS.out with h1 | h1
              · exact absurd h1.1 (by decide)
              · obtain ⟨i, hi, he⟩ := h.all b hlt
                obtain ⟨k, hk, _⟩ := Vc.lastOf_has (ts := ts) (j := j) (by omega) (i := i) (by rw [he, one_size]; decide)
                rw [he, HSS.out, h1.2] at hk
                cases hk)
            go_wp2_with fail
            go_ret
            exact ⟨Says.no HX.out, HB.out.alloc HB.out.size _⟩
          · go_wp2_with fail
            go_roundg (256 - (b + 1))
            case measure => omega
            case rel => exact ⟨b + 1, rfl, by go_num, by omega, hid (fun i hi => by
              by_cases h : i < b
              · exact HC.out i h
              · obtain rfl : i = b := by omega
                rcases HCS.out with h1 | h1
                · obtain ⟨_, k, _, hk⟩ := h1
                  obtain ⟨q1, q2, _⟩ := Vc.lastOf_some hk
                  exact ⟨k, q1, by rw [q2, HSS.out]⟩
                · exact absurd h1.1 (by decide)), hid (HM.out.alloc _), hid (HB.out.alloc HB.out.size _)⟩
        · obtain rfl : b = 256 := by omega
          have k2 : ¬ ((256 : Nat) : Int) < 256 := by omega
          have HX := hid (show Vc.MayT ts from ⟨by omega, fun i hi => (HA.out i (by omega)).1, fun i k hi hk hz he => by
            have h1 := (HA.out i (by omega)).2 hz
            have h2 := (HA.out k (by omega)).2 (by rw [← he]; exact hz)
            rw [he, h2] at h1
            exact (Option.some.inj h1).symm, fun b hb => by
            obtain ⟨k, hk, he⟩ := HC.out b hb
            exact ⟨k, by omega, he⟩⟩)
          go_wp2_with fail
          go_ret
          exact ⟨Says.yes HX.out, HB.out⟩
end Go.Proofs.Ytcjakjmhghoilaa

/-
  Walk of vocab.mayMerges.
-/
namespace Go.Proofs.Ytcjakjmhghoilaa
open Go.RowKit Go.Maps
set_option linter.unusedVariables false

/-- The parts that were seen, in memory. -/
def SetIn (w : World) (M : Nat) (ms : List Mg4) (j : Nat) : Prop :=
  ∃ (m : Nat) (D : DataW Unit), m ≤ j ∧ w.ownsMap Try.prog 123 (unitElem (H := Unit)) M m D ∧ ∀ l r kl, keyOf Try.prog 123 (.agg #[.int .i64 l, .int .i64 r]) = some kl → (Maps.has D kl = true ↔ ∃ i, i < j ∧ (mat ms i).1 = l ∧ (mat ms i).2.1 = r)
theorem SetIn.below {w w' : World} {M j N : Nat} {ms : List Mg4} (h : SetIn w M ms j) (hb : Below N w w') (hn : M < N) : SetIn w' M ms j := by
  obtain ⟨m, D, hm, ho, hd⟩ := h
  exact ⟨m, D, hm, owns_below ho hb hn, hd⟩
theorem SetIn.alloc {w : World} {M j : Nat} {ms : List Mg4} (h : SetIn w M ms j) (o : Obj) : SetIn (w.alloc o) M ms j := by
  obtain ⟨m, D, hm, ho, hd⟩ := h
  exact ⟨m, D, hm, ho.alloc o, hd⟩
theorem SetIn.lt {w : World} {M j : Nat} {ms : List Mg4} (h : SetIn w M ms j) : M < w.heap.size := by
  obtain ⟨m, D, hm, ho, hd⟩ := h
  exact ho.lt
theorem setIn_none (w : World) (ms : List Mg4) : SetIn (w.alloc (.map #[] 0)) w.heap.size ms 0 :=
  ⟨0, _, Nat.le_refl _, World.ownsMap_made w _ _ _, fun l r kl _ => ⟨fun h => by simp [Maps.has] at h, fun ⟨i, hi, _⟩ => by omega⟩⟩
theorem seen_put {ms : List Mg4} {j : Nat} {D : DataW Unit} (hD : IsMap D) {l r : Int} {kl : Lit} (hk : keyOf Try.prog 123 (.agg #[.int .i64 l, .int .i64 r]) = some kl) (hl : (mat ms j).1 = l) (hr : (mat ms j).2.1 = r)
    (hd : ∀ l r kl, keyOf Try.prog 123 (.agg #[.int .i64 l, .int .i64 r]) = some kl → (Maps.has D kl = true ↔ ∃ i, i < j ∧ (mat ms i).1 = l ∧ (mat ms i).2.1 = r)) :
    ∀ l r kl', keyOf Try.prog 123 (.agg #[.int .i64 l, .int .i64 r]) = some kl' → (Maps.has (D.put kl (.agg [])) kl' = true ↔ ∃ i, i < j + 1 ∧ (mat ms i).1 = l ∧ (mat ms i).2.1 = r) := by
  intro l' r' kl' hk'
  by_cases he : kl' = kl
  · subst he
    have h := Try.keyed.inj hk hk'
    simp only [Value.agg.injEq, Array.mk.injEq, List.cons.injEq, Value.int.injEq, true_and, and_true] at h
    obtain ⟨e1, e2⟩ := h
    constructor
    · intro _
      exact ⟨j, by omega, by rw [hl]; exact e1, by rw [hr]; exact e2⟩
    · intro _
      exact has_put_same hD (Try.keyed.key hk) _
  · rw [has_put_other he, hd l' r' kl' hk']
    constructor
    · rintro ⟨i, hi, h⟩
      exact ⟨i, by omega, h⟩
    · rintro ⟨i, hi, h1, h2⟩
      by_cases hij : i < j
      · exact ⟨i, hij, h1, h2⟩
      · obtain rfl : i = j := by omega
        exact absurd (by rw [← h1, ← h2, hl, hr, hk] at hk'; exact (Option.some.inj hk').symm) he

theorem row_all {ms : List Mg4} (h : Vc.Row ms) : ∀ k i, i < k → k < ms.length → Vc.Ahead (mat ms i) (mat ms k) ∧ ((mat ms i).2.2.2 = (mat ms k).2.2.2 → (mat ms i).2.2.1 = (mat ms k).2.2.1)
  | 0, i, hi, _ => absurd hi (Nat.not_lt_zero _)
  | k + 1, i, hi, hk => by
    obtain ⟨a1, a2⟩ := h k hk
    by_cases hik : i = k
    · subst hik; exact ⟨a1, a2⟩
    · obtain ⟨b1, b2⟩ := row_all h k i (by omega) (by omega)
      refine ⟨b1.trans a1, fun e => ?_⟩
      have e1 : (mat ms i).2.2.2 = (mat ms k).2.2.2 := by unfold Vc.Ahead at a1 b1; omega
      have e2 : (mat ms k).2.2.2 = (mat ms (k + 1)).2.2.2 := by omega
      rw [b2 e1, a2 e2]
theorem wf_in {x : Int} (h0 : 0 ≤ x) (h1 : x < 4096) : (Lit.int .i64 x).wf = true := by
  simp only [Lit.wf, Bool.and_eq_true, decide_eq_true_eq]
  exact ⟨Int.le_trans (by decide) h0, Int.le_trans (Int.le_of_lt h1) (by decide)⟩

set_option maxRecDepth 100000 in
set_option maxHeartbeats 3200000 in
theorem mayMerges_calls {w : World} {a am az : Option Addr} {n c nm cm ns cs : Nat} {ts : Vc.Toks} {ms : List Mg4} (V : Ts w a n c ts) (M : Qw w am nm cm ms) (hT : Vc.MayT ts) :
    Calls Try.prog 52 #[.agg #[.slice a n c, .slice am nm cm, .slice az ns cs]] w fun e w' => Says e (Vc.MayM ts ms) ∧ Below w.heap.size w w' := by
  have hl := V.len
  have hlm := M.len
  have hn := hT.len
  have B0 := hid ((Below.refl w.heap.size w).alloc (Nat.le_refl _) (.cells #[.slice a n c, .slice am nm cm, .slice az ns cs] 26))
  have X0 := hid (Bx3.new w 26 (.slice a n c) (.slice am nm cm) (.slice az ns cs))
  have s0 : (w.alloc (.cells #[.slice a n c, .slice am nm cm, .slice az ns cs] 26)).heap.size = w.heap.size + 1 := by simp
  have M0 := hid (M.below B0.out)
  have TW := hid V
  have MW := hid M
  have HT := hid hT
  clear V M hT
  have hmm := @run_makeMap Try.prog
  by_cases h0 : (16384 : Int) < nm
  · have HN := hid (show ¬ Vc.MayM ts ms from fun h => by have := h.len; omega)
    go_enter Try.func52, Try.ntmps52
    go_wp2_with fail
    go_ret
    exact ⟨Says.no HN.out, B0.out⟩
  have hm : nm ≤ 16384 := by omega
  go_enter Try.func52, Try.ntmps52
  go_wp2_with fail
  refine (holds_calls M0.out hm).mono ?_
  rintro e w1 ⟨⟨t, rfl, ht⟩, b1⟩
  have HR := hid ht
  have X1 := hid (X0.out.below b1 X0.out.lt)
  have hw1 := b1.size
  rw [s0] at hw1
  have B1 := hid (B0.out.trans (b1.mono B0.out.size))
  clear b1 ht X0 B0 M0
  have x11 := X1.out.cell1
  cases t
  · have HN := hid (show ¬ Vc.MayM ts ms from fun h => by
      have : Vc.Row ms := fun i hi => ⟨(h.both i (i + 1) (by omega) hi).1, (h.both i (i + 1) (by omega) hi).2.2⟩
      exact absurd (HR.out.2 this) (by decide))
    go_wp2_with fail
    go_ret
    exact ⟨Says.no HN.out, B1.out⟩
  have HRow := hid (HR.out.1 rfl)
  clear HR
  have X2 := hid (X1.out.alloc (.map #[] 0))
  have B2 := hid (B1.out.alloc B1.out.size (.map #[] 0))
  have S2 := hid (setIn_none w1 ms)
  have x21 := X2.out.cell1
  clear X1 B1
  go_wp2_with fail
  obtain ⟨K, hK⟩ : ∃ K, w1.heap.size = K := ⟨_, rfl⟩
  rw [hK] at S2 hw1 ⊢
  clear hK
  go_loopg [23] nm (fun r iv wr => ∃ j : Nat, r = nm - j ∧ iv = .int .i64 (j : Int) ∧ j ≤ nm ∧ Hid (∀ i, i < j → Vc.OkM ts (mat ms i)) ∧ Hid (∀ i k, i < k → k < j → ¬ ((mat ms i).1 = (mat ms k).1 ∧ (mat ms i).2.1 = (mat ms k).2.1)) ∧ Hid (SetIn wr K ms j) ∧ Hid (Bx3 wr w.heap.size 26 (.slice a n c) (.slice am nm cm) (.slice az ns cs)) ∧ Hid (Below w.heap.size w wr))
  case atStart => exact ⟨0, rfl, rfl, by omega, hid (fun i hi => by omega), hid (fun i k _ hk => by omega), S2, X2, B2⟩
  case round =>
    obtain ⟨j, rfl, rfl, hj, HA, HP, HS, HX, HB⟩ := hrel
    by_cases hlt : j < nm
    · have k1 : (j : Int) < nm := by omega
      have k0 : (0 : Int) ≤ j := by omega
      have e2 : IntKind.i64.wrap ((j : Int) + 1) = j + 1 := i64_in (by omega) (by omega)
      obtain ⟨b, off, rfl, hbl, hc⟩ := (MW.out.below HB.out).at' (by omega)
      obtain ⟨p0, p1, p2, p3⟩ := hc j hlt
      obtain ⟨⟨x0, x1, x2, x3⟩, hx⟩ : ∃ x, mat ms j = x := ⟨_, rfl⟩
      rw [hx] at p0 p1 p2 p3
      have HQ := hid hx
      have X3 := hid (HX.out.alloc (.cells #[.int .i64 x0, .int .i64 x1, .int .i64 x2, .int .i64 x3] 50))
      have Y3 := hid (Bx4.new wr 50 (.int .i64 x0) (.int .i64 x1) (.int .i64 x2) (.int .i64 x3))
      have B3 := hid (HB.out.alloc HB.out.size (.cells #[.int .i64 x0, .int .i64 x1, .int .i64 x2, .int .i64 x3] 50))
      have S3 := hid (HS.out.alloc (.cells #[.int .i64 x0, .int .i64 x1, .int .i64 x2, .int .i64 x3] 50))
      have z0 := X3.out.cell0
      have z1 := X3.out.cell1
      have z2 := X3.out.cell2
      have y0 := Y3.out.cell0
      have y1 := Y3.out.cell1
      have y2 := Y3.out.cell2
      have y3 := Y3.out.cell3
      clear hc hx
      go_wp2_with fail
      refine (mayMerge_calls (TW.out.below B3.out) HT.out x0 x1 x2 x3).mono ?_
      rintro e w4 ⟨⟨t, rfl, ht⟩, b4⟩
      have HO := hid ht
      have X4 := hid (X3.out.below b4 X3.out.lt)
      have Y4 := hid (Y3.out.below b4 Y3.out.lt)
      have S4 := hid (S3.out.below b4 S3.out.lt)
      have B4 := hid (B3.out.trans (b4.mono B3.out.size))
      clear b4 ht X3 Y3 S3 B3 z0 z1 z2 y0 y1 y2 y3
      cases t
      · have HN := hid (show ¬ Vc.MayM ts ms from fun h => by
          have := h.ok j (by omega)
          rw [HQ.out] at this
          exact absurd (HO.out.2 this) (by decide))
        go_wp2_with fail
        go_ret
        exact ⟨Says.no HN.out, B4.out⟩
      have hok := HO.out.1 rfl
      have w0 := wf_in hok.1.1 (Int.lt_of_lt_of_le hok.1.2.1 (by have := HT.out.len; omega))
      have w1' := wf_in hok.2.1.1 (Int.lt_of_lt_of_le hok.2.1.2.1 (by have := HT.out.len; omega))
      have HOk := hid hok
      clear hok HO
      obtain ⟨kl, hkl⟩ := key_pt x0 x1 w0 w1'
      have y0 := Y4.out.cell0
      have y1 := Y4.out.cell1
      have X5 := hid (X4.out.alloc (.cells #[.int .i64 x0, .int .i64 x1] 123))
      have S5 := hid (S4.out.alloc (.cells #[.int .i64 x0, .int .i64 x1] 123))
      have B5 := hid (B4.out.alloc B4.out.size (.cells #[.int .i64 x0, .int .i64 x1] 123))
      have Z5 := hid (Bx2.new w4 123 (.int .i64 x0) (.int .i64 x1))
      have g0 := Z5.out.cell0
      have g1 := Z5.out.cell1
      obtain ⟨m, D, hmj, ho, hd⟩ := S5.out
      obtain ⟨v, ps, hlk, hv⟩ := ho.look_ok Try.keyed Try.underlying120 (Try.zeroU _) unitElem_mk hkl
      obtain ⟨rfl, _⟩ := unitElem_inv hv
      obtain ⟨t, ht⟩ : ∃ t, Maps.has D kl = t := ⟨_, rfl⟩
      rw [ht] at hlk
      have HHas := hid ht
      have HD := hid hd
      have HOw := hid ho
      have HKl := hid hkl
      clear ht hd ho hkl hv S5 X4 S4 B4 w0 w1'
      have X6 := hid (X5.out.alloc (.cells #[] 124))
      have B6 := hid (B5.out.alloc B5.out.size (.cells #[] 124))
      have Z6 := hid (Z5.out.alloc (.cells #[] 124))
      have O6 := hid (HOw.out.alloc (.cells #[] 124))
      have f0 := Z6.out.cell0
      have f1 := Z6.out.cell1
      cases t
      · go_wp2_with (at_mapUpdate; go_must (refine wpList_mapUpdate_own _ rfl _ _ _ 120 rfl 123 124 Try.keyed Try.underlying120 (unitElem (H := Unit)) K m _ rfl O6.out (by unfold maxLen; omega) _ _ _ rfl rfl HKl.out (.agg []) [] unitElem_mk ?_); intro w7 o7 g7; have O7 := hid o7; have G7 := hid g7; clear o7 g7)
        go_roundg (nm - (j + 1))
        case measure => omega
        case rel =>
          refine ⟨j + 1, rfl, by go_num, by omega, hid (fun i hi => ?_), hid (fun i k hik hk => ?_), hid ⟨m + 1, _, by omega, O7.out, seen_put HOw.out.isMap HKl.out (by rw [HQ.out]) (by rw [HQ.out]) HD.out⟩, hid (X6.out.kept G7.out (by simp; omega)), hid (B6.out.grown G7.out B6.out.size (fun k hk => by simp at hk; omega))⟩
          · by_cases h : i < j
            · exact HA.out i h
            · obtain rfl : i = j := by omega
              rw [HQ.out]; exact HOk.out
          · by_cases h : k < j
            · exact HP.out i k hik h
            · obtain rfl : k = j := by omega
              rw [HQ.out]
              intro hc
              have h2 := (HD.out x0 x1 kl HKl.out).2 ⟨i, hik, hc⟩
              rw [HHas.out] at h2
              cases h2
      · have HN := hid (show ¬ Vc.MayM ts ms from fun h => by
          obtain ⟨i, hi, h1, h2⟩ := (HD.out x0 x1 kl HKl.out).1 HHas.out
          have := (h.both i j hi (by omega)).2.1
          rw [HQ.out] at this
          exact this ⟨h1, h2⟩)
        go_wp2_with fail
        go_ret
        exact ⟨Says.no HN.out, B6.out⟩
    · have k1 : ¬ ((j : Int) < nm) := by omega
      have HN := hid (show Vc.MayM ts ms from ⟨by omega, fun i hi => HA.out i (by omega), fun i k hik hk => ⟨(row_all HRow.out k i hik hk).1, HP.out i k hik (by omega), (row_all HRow.out k i hik hk).2⟩⟩)
      go_wp2_with fail
      go_ret
      exact ⟨Says.yes HN.out, HB.out⟩
end Go.Proofs.Ytcjakjmhghoilaa

/-
  Walks of vocab.May, vocab.checked.
-/
namespace Go.Proofs.Ytcjakjmhghoilaa
open Go.RowKit Go.Maps
set_option linter.unusedVariables false

set_option maxRecDepth 100000 in
set_option maxHeartbeats 3200000 in
theorem may_calls {w : World} {a am az : Option Addr} {n c nm cm ns cs : Nat} {ts : Vc.Toks} {ms : List Mg4} {sp : Vc.Sps} (V : Vo w a n c am nm cm az ns cs ts ms sp) (hz : ∀ i, i < n → (at_ ts i).size ≤ maxLen) :
    Calls Try.prog 36 #[.agg #[.slice a n c, .slice am nm cm, .slice az ns cs]] w fun e w' => Says e (Vc.May ts ms sp) ∧ Below w.heap.size w w' := by
  have B0 := hid ((Below.refl w.heap.size w).alloc (Nat.le_refl _) (.cells #[.slice a n c, .slice am nm cm, .slice az ns cs] 26))
  have X0 := hid (Bx3.new w 26 (.slice a n c) (.slice am nm cm) (.slice az ns cs))
  have VW := hid V
  have V0 := hid (V.below B0.out)
  have HZ := hid hz
  clear V hz
  go_enter Try.func36, Try.ntmps36
  go_wp2_with fail
  refine (mayTokens_calls V0.out.T HZ.out).mono ?_
  rintro e w1 ⟨⟨t, rfl, ht⟩, b1⟩
  have HT := hid ht
  have X1 := hid (X0.out.below b1 X0.out.lt)
  have V1 := hid (V0.out.below b1)
  have B1 := hid (B0.out.trans (b1.mono B0.out.size))
  clear ht b1 X0 V0 B0
  cases t
  · have HN := hid (show ¬ Vc.May ts ms sp from fun h => absurd (HT.out.2 h.T) (by decide))
    go_wp2_with fail
    go_ret
    exact ⟨Says.no HN.out, B1.out⟩
  have H1 := hid (HT.out.1 rfl)
  have c0 := X1.out.cell0
  have c1 := X1.out.cell1
  have c2 := X1.out.cell2
  go_wp2_with fail
  refine (mayMerges_calls V1.out.T V1.out.M H1.out).mono ?_
  rintro e w2 ⟨⟨t, rfl, ht⟩, b1⟩
  have HU := hid ht
  have X2 := hid (X1.out.below b1 X1.out.lt)
  have V2 := hid (V1.out.below b1)
  have B2 := hid (B1.out.trans (b1.mono B1.out.size))
  clear ht b1 X1 V1 B1 c0 c1 c2 HT
  cases t
  · have HN := hid (show ¬ Vc.May ts ms sp from fun h => absurd (HU.out.2 h.M) (by decide))
    go_wp2_with fail
    go_ret
    exact ⟨Says.no HN.out, B2.out⟩
  have H2 := hid (HU.out.1 rfl)
  have c0 := X2.out.cell0
  have c1 := X2.out.cell1
  have c2 := X2.out.cell2
  go_wp2_with fail
  refine (isMerged_calls V2.out.T V2.out.M H1.out H2.out).mono ?_
  rintro e w3 ⟨⟨t, rfl, ht⟩, b1⟩
  have HV := hid ht
  have X3 := hid (X2.out.below b1 X2.out.lt)
  have V3 := hid (V2.out.below b1)
  have B3 := hid (B2.out.trans (b1.mono B2.out.size))
  clear ht b1 X2 V2 B2 c0 c1 c2 HU
  cases t
  · have HN := hid (show ¬ Vc.May ts ms sp from fun h => absurd (HV.out.2 h.O) (by decide))
    go_wp2_with fail
    go_ret
    exact ⟨Says.no HN.out, B3.out⟩
  have H3 := hid (HV.out.1 rfl)
  have c0 := X3.out.cell0
  have c1 := X3.out.cell1
  have c2 := X3.out.cell2
  go_wp2_with fail
  refine (maySpecials_calls V3.out.T V3.out.S).mono ?_
  rintro e w4 ⟨⟨t, rfl, ht⟩, b1⟩
  have HS := hid ht
  have B4 := hid (B3.out.trans (b1.mono B3.out.size))
  clear ht b1 X3 V3 B3 c0 c1 c2 HV
  cases t
  · have HN := hid (show ¬ Vc.May ts ms sp from fun h => absurd (HS.out.2 h.S) (by decide))
    go_wp2_with fail
    go_ret
    exact ⟨Says.no HN.out, B4.out⟩
  · have HN := hid (show Vc.May ts ms sp from ⟨H1.out, H2.out, H3.out, HS.out.1 rfl⟩)
    go_wp2_with fail
    go_ret
    exact ⟨Says.yes HN.out, B4.out⟩

/-- A block of three cells, as it is written: between the stores and behind them. -/
theorem ret_three {W : World} {R : Nat} {t : TypeId} {a b c : Value} (X : Bx3 W R t a b c) (x y z : Value) :
    Bx3 (W.setCell ⟨R, 0, none⟩ x) R t x b c ∧ Bx3 ((W.setCell ⟨R, 0, none⟩ x).setCell ⟨R, 1, none⟩ y) R t x y c ∧ Bx3 (three W R x y z) R t x y z :=
  ⟨X.set0 x, (X.set0 x).set1 y, X.three x y z⟩

/-- What checked answers. -/
def ChOut (a : Option Addr) (n c : Nat) (am : Option Addr) (nm cm : Nat) (az : Option Addr) (ns cs : Nat) (ts : Vc.Toks) (ms : List Mg4) (sp : Vc.Sps) (e : Ending) : Prop :=
  (Vc.May ts ms sp ∧ e = .returned (.tuple #[.agg #[.slice a n c, .slice am nm cm, .slice az ns cs], .int .i64 0])) ∨ (¬ Vc.May ts ms sp ∧ e = .returned (.tuple #[.agg #[.slice none 0 0, .slice none 0 0, .slice none 0 0], .int .i64 2]))

end Go.Proofs.Ytcjakjmhghoilaa
